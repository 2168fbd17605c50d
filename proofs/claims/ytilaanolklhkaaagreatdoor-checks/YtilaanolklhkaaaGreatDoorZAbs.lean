import Derived.WalkKit
import Derived.Orders
import GoSem.ClaimWide
/- The abstract machine: values without addresses, persistent slices by value, mutable objects by number.
   'VR': how a concrete value stands to an abstract one; 'Inv': the memory; 'Ext': what later memory keeps. -/
namespace Go.Abs
open Go.RowKit (Below)

abbrev AV := DataW (Value ⊕ (Nat × Nat × Option Nat))
/-- a plain value, the same on both sides -/
abbrev sc (v : Value) : AV := .held (.inl v)
/-- a pointer into object o -/
abbrev ptr (o off : Nat) : AV := .held (.inr (o, off, none))
/-- a slice of an object's cells -/
abbrev fx (o off len : Nat) : AV := .held (.inr (o, off, some len))
/-- a persistent slice: id 0: read alone; 1: empty, no room behind it; k+2: the k-th that grows -/
abbrev sl (id n : Nat) (xs : List AV) : AV := .slice xs [.held (.inr (id, n, none))]
abbrev ag (xs : List AV) : AV := .agg xs
abbrev tp (xs : List AV) : AV := .ptr (.agg xs)
/-- a pointer to persistent cells: those from there on -/
abbrev el (xs : List AV) : AV := .ptr (.ptr (.agg xs))
abbrev nilS : AV := sl 1 0 []

structure St where
  obj : Nat → List AV
  nobj : Nat
  top : Nat → Nat
  ntop : Nat
  ver : Nat → Nat

structure Gh where
  blk : Nat → Nat
  cur : Nat → Nat
  cap : Nat → Nat
  siz : Nat → Nat
  per : Nat → Nat → Prop
  base : Nat
  w0 : World

def All2 (R : Value → AV → Prop) (l : List Value) (m : List AV) : Prop :=
  l.length = m.length ∧ ∀ (i : Nat) (a : Value) (b : AV), l[i]? = some a → m[i]? = some b → R a b

def Lie (w : World) (per : Nat → Nat → Prop) (R : Value → AV → Prop) (b o : Nat) (xs : List AV) : Prop :=
  ∀ (i : Nat) (x : AV), xs[i]? = some x → per b (o + i) ∧ ∃ c, w.cell? ⟨b, o + i, none⟩ = some c ∧ R c x

def Stp (G : Gh) (σ : St) (w : World) (R : Value → AV → Prop) (v : Value) : AV → Prop
  | .held (.inl u) => v = u
  | .held (.inr (o, off, none)) => v = .pointer (some ⟨G.blk o, off, none⟩) ∧ o < σ.nobj
  | .held (.inr (o, off, some len)) => (∃ cap, v = .slice (some ⟨G.blk o, off, none⟩) len cap) ∧ o < σ.nobj
  | .agg xs => ∃ cs, v = .agg cs ∧ All2 R cs.toList xs
  | .ptr (.agg xs) => ∃ cs, v = .tuple cs ∧ All2 R cs.toList xs
  | .ptr (.ptr (.agg xs)) => ∃ b o, v = .pointer (some ⟨b, o, none⟩) ∧ Lie w G.per R b o xs
  | .slice xs [.held (.inr (id, n, none))] => ∃ base cap, v = .slice base n cap ∧ (id = 1 → n = 0 ∧ cap = 0) ∧
      (xs ≠ [] → ∃ b o, base = some ⟨b, o, none⟩ ∧ Lie w G.per R b o xs) ∧
      (∀ k, id = k + 2 → k < σ.ntop ∧ n ≤ σ.top k ∧ xs.length = n * G.siz k ∧ (n = σ.top k → base = some ⟨G.cur k, 0, none⟩ ∧ cap = G.cap k))
  | _ => False

/-- The greatest relation that 'Stp' allows: on these trees the only one. -/
def VR (G : Gh) (σ : St) (w : World) (v : Value) (x : AV) : Prop :=
  ∃ R : Value → AV → Prop, (∀ v x, R v x → Stp G σ w R v x) ∧ R v x

theorem All2.mono {R R' : Value → AV → Prop} (h : ∀ v x, R v x → R' v x) {l : List Value} {m : List AV} (a : All2 R l m) : All2 R' l m :=
  ⟨a.1, fun i x y hx hy => h _ _ (a.2 i x y hx hy)⟩

theorem Lie.mono {w w' : World} {per per' : Nat → Nat → Prop} {R R' : Value → AV → Prop} (h : ∀ v x, R v x → R' v x)
    (hp : ∀ b o, per b o → per' b o ∧ w'.cell? ⟨b, o, none⟩ = w.cell? ⟨b, o, none⟩) {b o : Nat} {xs : List AV} (a : Lie w per R b o xs) : Lie w' per' R' b o xs :=
  fun i x hx => let ⟨p, c, hc, r⟩ := a i x hx; ⟨(hp _ _ p).1, c, (hp _ _ p).2.trans hc, h _ _ r⟩

theorem Stp.mono {G : Gh} {σ : St} {w : World} {R R' : Value → AV → Prop} (h : ∀ v x, R v x → R' v x) {v : Value} {x : AV} (a : Stp G σ w R v x) : Stp G σ w R' v x := by
  unfold Stp at *
  split at a
  · exact a
  · exact a
  · exact a
  · obtain ⟨cs, e, r⟩ := a; exact ⟨cs, e, r.mono h⟩
  · obtain ⟨cs, e, r⟩ := a; exact ⟨cs, e, r.mono h⟩
  · obtain ⟨b, o, e, r⟩ := a; exact ⟨b, o, e, r.mono h (fun _ _ p => ⟨p, rfl⟩)⟩
  · obtain ⟨base, cap, e, h1, h2, h3⟩ := a
    exact ⟨base, cap, e, h1, fun hn => let ⟨b, o, e, r⟩ := h2 hn; ⟨b, o, e, r.mono h (fun _ _ p => ⟨p, rfl⟩)⟩, h3⟩
  · exact a

theorem VR.unfold {G : Gh} {σ : St} {w : World} {v : Value} {x : AV} (a : VR G σ w v x) : Stp G σ w (VR G σ w) v x := by
  obtain ⟨R, h, r⟩ := a
  exact (h _ _ r).mono fun v x r => ⟨R, h, r⟩

theorem VR.fold {G : Gh} {σ : St} {w : World} {v : Value} {x : AV} (a : Stp G σ w (VR G σ w) v x) : VR G σ w v x :=
  ⟨fun v x => VR G σ w v x ∨ Stp G σ w (VR G σ w) v x, fun v x h => by
    rcases h with h | h
    · exact h.unfold.mono fun _ _ => .inl
    · exact h.mono fun _ _ => .inl, .inr a⟩

/-- What a later state keeps of an earlier one. -/
structure Ext (G : Gh) (σ : St) (w : World) (G' : Gh) (σ' : St) (w' : World) : Prop where
  base : G'.base = G.base
  w0 : G'.w0 = G.w0
  nobj : σ.nobj ≤ σ'.nobj
  blk : ∀ o, o < σ.nobj → G'.blk o = G.blk o
  ntop : σ.ntop ≤ σ'.ntop
  top : ∀ k, k < σ.ntop → σ.top k ≤ σ'.top k ∧ G'.siz k = G.siz k ∧ (σ'.top k = σ.top k → G'.cur k = G.cur k ∧ G'.cap k = G.cap k)
  per : ∀ b o, G.per b o → G'.per b o ∧ w'.cell? ⟨b, o, none⟩ = w.cell? ⟨b, o, none⟩
  ver : ∀ o, o < σ.nobj → σ.ver o ≤ σ'.ver o ∧ (σ'.ver o = σ.ver o → w'.heap[G.blk o]? = w.heap[G.blk o]?)

theorem Ext.refl (G : Gh) (σ : St) (w : World) : Ext G σ w G σ w :=
  ⟨rfl, rfl, Nat.le_refl _, fun _ _ => rfl, Nat.le_refl _, fun _ _ => ⟨Nat.le_refl _, rfl, fun _ => ⟨rfl, rfl⟩⟩, fun _ _ p => ⟨p, rfl⟩, fun _ _ => ⟨Nat.le_refl _, fun _ => rfl⟩⟩

theorem Ext.trans {G G' G'' : Gh} {σ σ' σ'' : St} {w w' w'' : World} (a : Ext G σ w G' σ' w') (b : Ext G' σ' w' G'' σ'' w'') : Ext G σ w G'' σ'' w'' where
  base := b.base.trans a.base
  w0 := b.w0.trans a.w0
  nobj := Nat.le_trans a.nobj b.nobj
  blk := fun o h => (b.blk o (Nat.lt_of_lt_of_le h a.nobj)).trans (a.blk o h)
  ntop := Nat.le_trans a.ntop b.ntop
  top := fun k h => by
    obtain ⟨h1, h2, h3⟩ := a.top k h
    obtain ⟨g1, g2, g3⟩ := b.top k (Nat.lt_of_lt_of_le h a.ntop)
    refine ⟨Nat.le_trans h1 g1, g2.trans h2, fun e => ?_⟩
    have e1 : σ'.top k = σ.top k := by omega
    have e2 : σ''.top k = σ'.top k := by omega
    exact ⟨(g3 e2).1.trans (h3 e1).1, (g3 e2).2.trans (h3 e1).2⟩
  per := fun x o p => ⟨(b.per _ _ (a.per _ _ p).1).1, ((b.per _ _ (a.per _ _ p).1).2).trans (a.per _ _ p).2⟩
  ver := fun o h => by
    obtain ⟨h1, h2⟩ := a.ver o h
    obtain ⟨g1, g2⟩ := b.ver o (Nat.lt_of_lt_of_le h a.nobj)
    refine ⟨Nat.le_trans h1 g1, fun e => ?_⟩
    have e2 := g2 (by omega)
    rw [a.blk o h] at e2
    exact e2.trans (h2 (by omega))

theorem Stp.ext {G G' : Gh} {σ σ' : St} {w w' : World} (E : Ext G σ w G' σ' w') {R : Value → AV → Prop} {v : Value} {x : AV} (a : Stp G σ w R v x) : Stp G' σ' w' R v x := by
  unfold Stp at *
  split at a
  · exact a
  · exact ⟨by rw [E.blk _ a.2]; exact a.1, Nat.lt_of_lt_of_le a.2 E.nobj⟩
  · exact ⟨by rw [E.blk _ a.2]; exact a.1, Nat.lt_of_lt_of_le a.2 E.nobj⟩
  · exact a
  · exact a
  · obtain ⟨b, o, e, r⟩ := a; exact ⟨b, o, e, r.mono (fun _ _ h => h) E.per⟩
  · obtain ⟨base, cap, e, h1, h2, h3⟩ := a
    refine ⟨base, cap, e, h1, fun hn => let ⟨b, o, e, r⟩ := h2 hn; ⟨b, o, e, r.mono (fun _ _ h => h) E.per⟩, fun k hk => ?_⟩
    obtain ⟨g1, g2, g3, g4⟩ := h3 k hk
    obtain ⟨t1, t2, t3⟩ := E.top k g1
    refine ⟨Nat.lt_of_lt_of_le g1 E.ntop, Nat.le_trans g2 t1, by rw [t2]; exact g3, fun e => ?_⟩
    have e1 : σ'.top k = σ.top k := by omega
    rw [(t3 e1).1, (t3 e1).2]
    exact g4 (by omega)
  · exact a

theorem VR.ext {G G' : Gh} {σ σ' : St} {w w' : World} (E : Ext G σ w G' σ' w') {v : Value} {x : AV} (a : VR G σ w v x) : VR G' σ' w' v x := by
  obtain ⟨R, h, r⟩ := a
  exact ⟨R, fun v x r => (h v x r).ext E, r⟩

theorem VR.all {G G' : Gh} {σ σ' : St} {w w' : World} (E : Ext G σ w G' σ' w') {l : List Value} {m : List AV} (a : All2 (VR G σ w) l m) : All2 (VR G' σ' w') l m := a.mono fun _ _ h => h.ext E

/-- The memory. -/
structure Inv (G : Gh) (σ : St) (w : World) : Prop where
  obj : ∀ o, o < σ.nobj → G.base ≤ G.blk o ∧ (∃ arr e, w.heap[G.blk o]? = some (.cells arr e (0, 0)) ∧ All2 (VR G σ w) arr.toList (σ.obj o)) ∧ ∀ off, ¬ G.per (G.blk o) off
  inj : ∀ o o', o < σ.nobj → o' < σ.nobj → G.blk o = G.blk o' → o = o'
  lin : ∀ k, k < σ.ntop → G.base ≤ G.cur k ∧ (∃ arr e, w.heap[G.cur k]? = some (.cells arr e (0, 0)) ∧ arr.size = G.cap k * G.siz k) ∧ σ.top k ≤ G.cap k ∧ ∀ off, G.per (G.cur k) off → off < σ.top k * G.siz k
  linj : ∀ k k', k < σ.ntop → k' < σ.ntop → G.cur k = G.cur k' → k = k'
  apart : ∀ o k, o < σ.nobj → k < σ.ntop → G.blk o ≠ G.cur k
  perlt : ∀ b off, G.per b off → b < w.heap.size
  perlo : ∀ b off, b < G.base → G.per b off
  below : Below G.base G.w0 w
  le : G.base ≤ w.heap.size

theorem Inv.blk_lt {G : Gh} {σ : St} {w : World} (I : Inv G σ w) {o : Nat} (h : o < σ.nobj) : G.blk o < w.heap.size := by
  obtain ⟨-, ⟨arr, e, hb, -⟩, -⟩ := I.obj o h
  rcases Nat.lt_or_ge (G.blk o) w.heap.size with h | h
  · exact h
  · rw [Array.getElem?_eq_none h] at hb; cases hb

theorem Inv.cur_lt {G : Gh} {σ : St} {w : World} (I : Inv G σ w) {k : Nat} (h : k < σ.ntop) : G.cur k < w.heap.size := by
  obtain ⟨-, ⟨arr, e, hb, -⟩, -⟩ := I.lin k h
  rcases Nat.lt_or_ge (G.cur k) w.heap.size with h | h
  · exact h
  · rw [Array.getElem?_eq_none h] at hb; cases hb

/-- A draw. -/
theorem Inv.drawn {G : Gh} {σ : St} {w : World} (I : Inv G σ w) (n : Nat) : Inv G σ { w with drawn := n } ∧ Ext G σ w G σ { w with drawn := n } := by
  have E : Ext G σ w G σ { w with drawn := n } := ⟨rfl, rfl, Nat.le_refl _, fun _ _ => rfl, Nat.le_refl _, fun _ _ => ⟨Nat.le_refl _, rfl, fun _ => ⟨rfl, rfl⟩⟩, fun _ _ p => ⟨p, rfl⟩, fun _ _ => ⟨Nat.le_refl _, fun _ => rfl⟩⟩
  refine ⟨⟨fun o h => ?_, I.inj, I.lin, I.linj, I.apart, I.perlt, I.perlo, ⟨I.below.os, I.below.tape, I.below.output, I.below.size, I.below.block⟩, I.le⟩, E⟩
  obtain ⟨h1, ⟨arr, e, hb, ha⟩, h3⟩ := I.obj o h
  exact ⟨h1, ⟨arr, e, hb, VR.all E ha⟩, h3⟩

def St.new (σ : St) (cs : List AV) : St := { σ with obj := fun o => if o = σ.nobj then cs else σ.obj o, nobj := σ.nobj + 1 }
def St.put (σ : St) (o : Nat) (cs : List AV) : St := { σ with obj := fun p => if p = o then cs else σ.obj p, ver := fun p => if p = o then σ.ver p + 1 else σ.ver p }
def St.lay (σ : St) (n : Nat) : St := { σ with top := fun k => if k = σ.ntop then n else σ.top k, ntop := σ.ntop + 1 }
def St.raise (σ : St) (k n : Nat) : St := { σ with top := fun j => if j = k then n else σ.top j }

theorem cell_push {w : World} {ob : Obj} {b o : Nat} (h : b < w.heap.size) : ({ w with heap := w.heap.push ob } : World).cell? ⟨b, o, none⟩ = w.cell? ⟨b, o, none⟩ := by
  unfold World.cell?
  simp only [Array.getElem?_push]
  rw [if_neg (by omega)]

theorem heap_push {w : World} {ob : Obj} {b : Nat} (h : b < w.heap.size) : ({ w with heap := w.heap.push ob } : World).heap[b]? = w.heap[b]? := by
  simp only [Array.getElem?_push]
  rw [if_neg (by omega)]

theorem cell_push_new {w : World} {arr : Array Value} {e : TypeId} {fr : Nat × Nat} {o : Nat} : ({ w with heap := w.heap.push (.cells arr e fr) } : World).cell? ⟨w.heap.size, o, none⟩ = arr[o]? := by
  unfold World.cell?
  simp

/-- A new object. -/
theorem Inv.newObj {G : Gh} {σ : St} {w : World} (I : Inv G σ w) (arr : Array Value) (e : TypeId) (cs : List AV) (h : All2 (VR G σ w) arr.toList cs) :
    ∃ G', Inv G' (σ.new cs) { w with heap := w.heap.push (.cells arr e) } ∧ Ext G σ w G' (σ.new cs) { w with heap := w.heap.push (.cells arr e) } ∧ G'.blk σ.nobj = w.heap.size := by
  let G' : Gh := { G with blk := fun o => if o = σ.nobj then w.heap.size else G.blk o }
  have E : Ext G σ w G' (σ.new cs) { w with heap := w.heap.push (.cells arr e) } :=
    ⟨rfl, rfl, Nat.le_succ _, fun o h => by simp [G']; omega, Nat.le_refl _, fun _ _ => ⟨Nat.le_refl _, rfl, fun _ => ⟨rfl, rfl⟩⟩, fun b o p => ⟨p, cell_push (I.perlt _ _ p)⟩, fun o h => ⟨Nat.le_refl _, fun _ => heap_push (I.blk_lt h)⟩⟩
  refine ⟨G', ⟨fun o ho => ?_, fun o o' ho ho' he => ?_, fun k hk => ?_, I.linj, fun o k ho hk => ?_, fun b off p => ?_, I.perlo, ?_, ?_⟩, E, by simp [G']⟩
  · by_cases hn : o = σ.nobj
    · subst hn
      refine ⟨by simp [G']; exact I.le, ⟨arr, e, by simp [G'], ?_⟩, fun off p => ?_⟩
      · have : (σ.new cs).obj σ.nobj = cs := by simp [St.new]
        rw [this]; exact VR.all E h
      · have := I.perlt _ _ p
        simp [G'] at this
    · have ho' : o < σ.nobj := by simp [St.new] at ho; omega
      obtain ⟨h1, ⟨arr', e', hb, ha⟩, h3⟩ := I.obj o ho'
      have hG : G'.blk o = G.blk o := by simp [G', hn]
      rw [hG]
      refine ⟨h1, ⟨arr', e', ?_, ?_⟩, h3⟩
      · have := I.blk_lt ho'
        simp only [Array.getElem?_push]; rw [if_neg (by omega)]; exact hb
      · have : (σ.new cs).obj o = σ.obj o := by simp [St.new, hn]
        rw [this]; exact VR.all E ha
  · have hb : ∀ o, o < σ.nobj → G.blk o ≠ w.heap.size := fun o h => by have := I.blk_lt h; omega
    simp [St.new] at ho ho'
    by_cases h1 : o = σ.nobj <;> by_cases h2 : o' = σ.nobj <;> simp [G', h1, h2] at he
    · omega
    · exact absurd he.symm (hb o' (by omega))
    · exact absurd he (hb o (by omega))
    · exact I.inj o o' (by omega) (by omega) he
  · obtain ⟨h1, ⟨arr', e', hb, ha⟩, h3⟩ := I.lin k hk
    refine ⟨h1, ⟨arr', e', ?_, ha⟩, h3⟩
    have := I.cur_lt hk
    simp only [Array.getElem?_push]; rw [if_neg (show ¬ G'.cur k = w.heap.size from by show ¬ G.cur k = _; omega)]; exact hb
  · by_cases hn : o = σ.nobj
    · have := I.cur_lt hk
      simp [G', hn]; omega
    · simp [G', hn]; exact I.apart o k (by simp [St.new] at ho; omega) hk
  · have := I.perlt _ _ p
    simp; omega
  · have := I.below
    exact ⟨this.os, this.tape, this.output, by simp; exact Nat.le_trans this.size (Nat.le_succ _), fun k hk => by
      have h2 := I.le
      simp only [Array.getElem?_push]; rw [if_neg (show ¬ k = w.heap.size from by have : k < G.base := hk; omega)]; exact this.block k hk⟩
  · have := I.le
    simp; show G.base ≤ _; omega

/-- A new block that nobody writes again but by growing. -/
theorem Inv.newRow {G : Gh} {σ : St} {w : World} (I : Inv G σ w) (arr : Array Value) (e : TypeId) (n cap siz : Nat) (hs : arr.size = cap * siz) (hn : n ≤ cap) :
    ∃ G', Inv G' (σ.lay n) { w with heap := w.heap.push (.cells arr e) } ∧ Ext G σ w G' (σ.lay n) { w with heap := w.heap.push (.cells arr e) } ∧
      G'.cur σ.ntop = w.heap.size ∧ G'.cap σ.ntop = cap ∧ G'.siz σ.ntop = siz ∧ ∀ off, off < n * siz → G'.per w.heap.size off := by
  let G' : Gh := { G with cur := fun k => if k = σ.ntop then w.heap.size else G.cur k, cap := fun k => if k = σ.ntop then cap else G.cap k, siz := fun k => if k = σ.ntop then siz else G.siz k,
                          per := fun b off => G.per b off ∨ (b = w.heap.size ∧ off < n * siz) }
  have E : Ext G σ w G' (σ.lay n) { w with heap := w.heap.push (.cells arr e) } :=
    ⟨rfl, rfl, Nat.le_refl _, fun o h => rfl, Nat.le_succ _, fun k hk => by
      have hne : k ≠ σ.ntop := by omega
      simp [G', St.lay, hne], fun b o p => ⟨.inl p, cell_push (I.perlt _ _ p)⟩, fun o h => ⟨Nat.le_refl _, fun _ => heap_push (I.blk_lt h)⟩⟩
  refine ⟨G', ⟨fun o ho => ?_, I.inj, fun k hk => ?_, fun k k' hk hk' he => ?_, fun o k ho hk => ?_, fun b off p => ?_, fun b off h => .inl (I.perlo b off h), ?_, ?_⟩, E, by simp [G'], by simp [G'], by simp [G'], fun off h => .inr ⟨rfl, h⟩⟩
  · obtain ⟨h1, ⟨arr', e', hb, ha⟩, h3⟩ := I.obj o ho
    have hlt := I.blk_lt ho
    refine ⟨h1, ⟨arr', e', ?_, VR.all E ha⟩, fun off p => ?_⟩
    · simp only [Array.getElem?_push]; rw [if_neg (show ¬ G'.blk o = w.heap.size from by show ¬ G.blk o = _; omega)]; exact hb
    · rcases p with p | ⟨p, -⟩
      · exact h3 off p
      · have : G.blk o = w.heap.size := p
        omega
  · by_cases hne : k = σ.ntop
    · subst hne
      refine ⟨by simp [G']; exact I.le, ⟨arr, e, by simp [G'], by simp [G', hs]⟩, by simp [G', St.lay, hn], fun off p => ?_⟩
      have hc : G'.cur σ.ntop = w.heap.size := by simp [G']
      rw [hc] at p
      rcases p with p | ⟨-, p⟩
      · have := I.perlt _ _ p; omega
      · simpa [G', St.lay] using p
    · have hk' : k < σ.ntop := by simp [St.lay] at hk; omega
      obtain ⟨h1, ⟨arr', e', hb, ha⟩, h2, h3⟩ := I.lin k hk'
      have hlt := I.cur_lt hk'
      have hc : G'.cur k = G.cur k := by simp [G', hne]
      have hp : G'.cap k = G.cap k := by simp [G', hne]
      have hz : G'.siz k = G.siz k := by simp [G', hne]
      have ht : (σ.lay n).top k = σ.top k := by simp [St.lay, hne]
      rw [hc, hp, hz, ht]
      refine ⟨h1, ⟨arr', e', ?_, ha⟩, h2, fun off p => ?_⟩
      · simp only [Array.getElem?_push]; rw [if_neg (by omega)]; exact hb
      · rcases p with p | ⟨p, -⟩
        · exact h3 off p
        · omega
  · simp [St.lay] at hk hk'
    have hb : ∀ k, k < σ.ntop → G.cur k ≠ w.heap.size := fun k h => by have := I.cur_lt h; omega
    by_cases h1 : k = σ.ntop <;> by_cases h2 : k' = σ.ntop <;> simp [G', h1, h2] at he
    · omega
    · exact absurd he.symm (hb k' (by omega))
    · exact absurd he (hb k (by omega))
    · exact I.linj k k' (by omega) (by omega) he
  · have hlt := I.blk_lt ho
    by_cases hne : k = σ.ntop
    · simp [G', hne]; omega
    · simp [G', hne]; exact I.apart o k ho (by simp [St.lay] at hk; omega)
  · rcases p with p | ⟨p, -⟩
    · have := I.perlt _ _ p
      simp; omega
    · simp; omega
  · have := I.below
    exact ⟨this.os, this.tape, this.output, by simp; exact Nat.le_trans this.size (Nat.le_succ _), fun k hk => by
      have h2 := I.le
      simp only [Array.getElem?_push]; rw [if_neg (show ¬ k = w.heap.size from by have : k < G.base := hk; omega)]; exact this.block k hk⟩
  · have := I.le
    simp; show G.base ≤ _; omega
end Go.Abs
