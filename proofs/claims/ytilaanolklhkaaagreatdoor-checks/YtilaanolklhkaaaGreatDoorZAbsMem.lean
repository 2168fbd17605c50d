import Derived.Test.YtilaanolklhkaaaGreatDoorZAbs
/- The memory's moves: a store into an object, a slice that grows, loads. -/
namespace Go.Abs
open Go.RowKit (Below)

theorem Inv.below_row {G : Gh} {σ : St} {w : World} (I : Inv G σ w) {g : Nat} (hg : G.base ≤ g) (cs : Array Value) : Below G.base G.w0 (w.setRow g cs) := by
  have := I.below
  exact ⟨this.os, this.tape, this.output, by simp; exact this.size, fun k hk => by rw [setRow_other w g k cs (by omega)]; exact this.block k hk⟩

/-- An object's cells are laid anew. -/
theorem Inv.setObj {G : Gh} {σ : St} {w : World} (I : Inv G σ w) {o : Nat} (ho : o < σ.nobj) (arr : Array Value) (cs : List AV) (h : All2 (VR G σ w) arr.toList cs) :
    Inv G (σ.put o cs) (w.setRow (G.blk o) arr) ∧ Ext G σ w G (σ.put o cs) (w.setRow (G.blk o) arr) := by
  obtain ⟨b1, ⟨arr0, e0, hb0, ha0⟩, np⟩ := I.obj o ho
  have E : Ext G σ w G (σ.put o cs) (w.setRow (G.blk o) arr) :=
    ⟨rfl, rfl, Nat.le_refl _, fun _ _ => rfl, Nat.le_refl _, fun _ _ => ⟨Nat.le_refl _, rfl, fun _ => ⟨rfl, rfl⟩⟩, fun b off p => ⟨p, cell_setRow_other w _ _ _ (fun e => by
      have e' : b = G.blk o := e
      subst e'; exact np _ p)⟩, fun p hp => by
      by_cases hpo : p = o
      · subst hpo; simp [St.put]
      · refine ⟨by simp [St.put, hpo], fun _ => setRow_other w _ _ _ (fun e => hpo (I.inj p o hp ho e))⟩⟩
  refine ⟨⟨fun p hp => ?_, I.inj, fun k hk => ?_, I.linj, I.apart, fun b off p => by simp; exact I.perlt _ _ p, I.perlo, I.below_row b1 arr, by simp; exact I.le⟩, E⟩
  · by_cases hpo : p = o
    · subst hpo
      refine ⟨b1, ⟨arr, e0, setRow_heap w _ arr0 arr e0 _ hb0, ?_⟩, np⟩
      have : (σ.put p cs).obj p = cs := by simp [St.put]
      rw [this]; exact VR.all E h
    · obtain ⟨h1, ⟨arr', e', hb, ha⟩, h3⟩ := I.obj p hp
      refine ⟨h1, ⟨arr', e', ?_, ?_⟩, h3⟩
      · rw [setRow_other w _ _ _ (fun e => hpo (I.inj p o hp ho e))]; exact hb
      · have : (σ.put o cs).obj p = σ.obj p := by simp [St.put, hpo]
        rw [this]; exact VR.all E ha
  · obtain ⟨h1, ⟨arr', e', hb, ha⟩, h3⟩ := I.lin k hk
    refine ⟨h1, ⟨arr', e', ?_, ha⟩, h3⟩
    rw [setRow_other w _ _ _ (fun e => I.apart o k ho hk e.symm)]; exact hb

/-- A slice grows where it lies. -/
theorem Inv.growRoom {G : Gh} {σ : St} {w : World} (I : Inv G σ w) {k : Nat} (hk : k < σ.ntop) (n : Nat) (hn : n ≤ G.cap k) (ht : σ.top k ≤ n) (arr : Array Value)
    (hs : arr.size = G.cap k * G.siz k) (hold : ∀ off, off < σ.top k * G.siz k → w.cell? ⟨G.cur k, off, none⟩ = arr[off]?) :
    ∃ G', Inv G' (σ.raise k n) (w.setRow (G.cur k) arr) ∧ Ext G σ w G' (σ.raise k n) (w.setRow (G.cur k) arr) ∧ (∀ off, off < n * G.siz k → G'.per (G.cur k) off) ∧
      G'.cur k = G.cur k ∧ G'.cap k = G.cap k ∧ G'.siz k = G.siz k := by
  obtain ⟨b1, ⟨arr0, e0, hb0, hs0⟩, ht0, hp0⟩ := I.lin k hk
  let G' : Gh := { G with per := fun b off => G.per b off ∨ (b = G.cur k ∧ off < n * G.siz k) }
  have hcell : ∀ b off, G.per b off → (w.setRow (G.cur k) arr).cell? ⟨b, off, none⟩ = w.cell? ⟨b, off, none⟩ := fun b off p => by
    by_cases hb : b = G.cur k
    · subst hb
      rw [cell_setRow_same w _ off arr0 arr e0 _ hb0]
      exact (hold off (hp0 off p)).symm
    · exact cell_setRow_other w _ _ _ hb
  have E : Ext G σ w G' (σ.raise k n) (w.setRow (G.cur k) arr) :=
    ⟨rfl, rfl, Nat.le_refl _, fun _ _ => rfl, Nat.le_refl _, fun j hj => by
      refine ⟨?_, rfl, fun _ => ⟨rfl, rfl⟩⟩
      by_cases hjk : j = k
      · subst hjk; simp [St.raise]; exact ht
      · simp [St.raise, hjk], fun b off p => ⟨.inl p, hcell b off p⟩, fun o h => ⟨Nat.le_refl _, fun _ => setRow_other w _ _ _ (I.apart o k h hk)⟩⟩
  refine ⟨G', ⟨fun p hp => ?_, I.inj, fun j hj => ?_, I.linj, I.apart, fun b off p => ?_, fun b off h => .inl (I.perlo b off h), I.below_row b1 arr, by simp; exact I.le⟩, E, fun off h => .inr ⟨rfl, h⟩, rfl, rfl, rfl⟩
  · obtain ⟨h1, ⟨arr', e', hb, ha⟩, h3⟩ := I.obj p hp
    refine ⟨h1, ⟨arr', e', ?_, VR.all E ha⟩, fun off q => ?_⟩
    · show (w.setRow (G.cur k) arr).heap[G.blk p]? = _
      rw [setRow_other w _ _ _ (I.apart p k hp hk)]; exact hb
    · rcases q with q | ⟨q, -⟩
      · exact h3 off q
      · exact I.apart p k hp hk q
  · by_cases hjk : j = k
    · subst hjk
      refine ⟨b1, ⟨arr, e0, setRow_heap w _ arr0 arr e0 _ hb0, hs⟩, by simp [St.raise]; exact hn, fun off q => ?_⟩
      have e1 : (σ.raise j n).top j = n := by simp [St.raise]
      rw [e1]
      rcases q with q | ⟨-, q⟩
      · have := hp0 off q
        exact Nat.lt_of_lt_of_le this (Nat.mul_le_mul_right _ ht)
      · exact q
    · obtain ⟨h1, ⟨arr', e', hb, ha⟩, h2, h3⟩ := I.lin j hj
      have hne : G.cur j ≠ G.cur k := fun e => hjk (I.linj j k hj hk e)
      have e1 : (σ.raise k n).top j = σ.top j := by simp [St.raise, hjk]
      rw [e1]
      refine ⟨h1, ⟨arr', e', ?_, ha⟩, h2, fun off q => ?_⟩
      · show (w.setRow (G.cur k) arr).heap[G.cur j]? = _
        rw [setRow_other w _ _ _ hne]; exact hb
      · rcases q with q | ⟨q, -⟩
        · exact h3 off q
        · exact absurd q hne
  · rcases p with p | ⟨p, -⟩
    · simp; exact I.perlt _ _ p
    · have := I.cur_lt hk
      simp; omega

/-- A slice grows into a new row. -/
theorem Inv.growNew {G : Gh} {σ : St} {w : World} (I : Inv G σ w) {k : Nat} (hk : k < σ.ntop) (n cap : Nat) (hn : n ≤ cap) (ht : σ.top k < n) (arr : Array Value) (e : TypeId)
    (hs : arr.size = cap * G.siz k) :
    ∃ G', Inv G' (σ.raise k n) (w.alloc (.cells arr e)) ∧ Ext G σ w G' (σ.raise k n) (w.alloc (.cells arr e)) ∧ (∀ off, off < n * G.siz k → G'.per w.heap.size off) ∧
      G'.cur k = w.heap.size ∧ G'.cap k = cap ∧ G'.siz k = G.siz k := by
  obtain ⟨b1, ⟨arr0, e0, hb0, hs0⟩, ht0, hp0⟩ := I.lin k hk
  let G' : Gh := { G with cur := fun j => if j = k then w.heap.size else G.cur j, cap := fun j => if j = k then cap else G.cap j,
                          per := fun b off => G.per b off ∨ (b = w.heap.size ∧ off < n * G.siz k) }
  have E : Ext G σ w G' (σ.raise k n) (w.alloc (.cells arr e)) :=
    ⟨rfl, rfl, Nat.le_refl _, fun _ _ => rfl, Nat.le_refl _, fun j hj => by
      by_cases hjk : j = k
      · subst hjk; refine ⟨by simp [St.raise]; omega, rfl, fun he => ?_⟩
        simp [St.raise] at he; omega
      · simp [St.raise, hjk, G'], fun b off p => ⟨.inl p, cell_push (I.perlt _ _ p)⟩, fun o h => ⟨Nat.le_refl _, fun _ => heap_push (I.blk_lt h)⟩⟩
  have hold : ∀ b, b < w.heap.size → (w.alloc (.cells arr e)).heap[b]? = w.heap[b]? := fun b h => Go.RowKit.Below.heap_alloc w _ b h
  refine ⟨G', ⟨fun p hp => ?_, I.inj, fun j hj => ?_, fun j j' hj hj' he => ?_, fun o j ho hj => ?_, fun b off p => ?_, fun b off h => .inl (I.perlo b off h), ?_, ?_⟩, E, fun off h => .inr ⟨rfl, h⟩, by simp [G'], by simp [G'], rfl⟩
  · obtain ⟨h1, ⟨arr', e', hb, ha⟩, h3⟩ := I.obj p hp
    have hlt := I.blk_lt hp
    refine ⟨h1, ⟨arr', e', ?_, VR.all E ha⟩, fun off q => ?_⟩
    · show (w.alloc (.cells arr e)).heap[G.blk p]? = _
      rw [hold _ hlt]; exact hb
    · rcases q with q | ⟨q, -⟩
      · exact h3 off q
      · have : G.blk p = w.heap.size := q
        omega
  · by_cases hjk : j = k
    · subst hjk
      refine ⟨by simp [G']; exact I.le, ⟨arr, e, ?_, by simp [G', hs]⟩, by simp [G', St.raise, hn], fun off q => ?_⟩
      · have : G'.cur j = w.heap.size := by simp [G']
        rw [this]; exact heap_alloc_new w _
      · have hc : G'.cur j = w.heap.size := by simp [G']
        rw [hc] at q
        have e1 : (σ.raise j n).top j = n := by simp [St.raise]
        rw [e1]
        rcases q with q | ⟨-, q⟩
        · have := I.perlt _ _ q; omega
        · exact q
    · obtain ⟨h1, ⟨arr', e', hb, ha⟩, h2, h3⟩ := I.lin j hj
      have hlt := I.cur_lt hj
      have hc : G'.cur j = G.cur j := by simp [G', hjk]
      have hp : G'.cap j = G.cap j := by simp [G', hjk]
      have e1 : (σ.raise k n).top j = σ.top j := by simp [St.raise, hjk]
      rw [hc, hp, e1]
      refine ⟨h1, ⟨arr', e', ?_, ha⟩, h2, fun off q => ?_⟩
      · rw [hold _ hlt]; exact hb
      · rcases q with q | ⟨q, -⟩
        · exact h3 off q
        · omega
  · have hb : ∀ j, j < σ.ntop → G.cur j ≠ w.heap.size := fun j h => by have := I.cur_lt h; omega
    by_cases h1 : j = k <;> by_cases h2 : j' = k <;> simp [G', h1, h2] at he
    · omega
    · exact absurd he.symm (hb j' hj')
    · exact absurd he (hb j hj)
    · exact I.linj j j' hj hj' he
  · have hlt := I.blk_lt ho
    by_cases hjk : j = k
    · simp [G', hjk]; omega
    · simp [G', hjk]; exact I.apart o j ho hj
  · rcases p with p | ⟨p, -⟩
    · have := I.perlt _ _ p
      simp; omega
    · simp; omega
  · exact I.below.alloc I.le _
  · have := I.le
    simp; show G.base ≤ _; omega

/-! ### Lists -/
theorem All2.nil (R : Value → AV → Prop) : All2 R [] [] := ⟨rfl, fun i a b h => by simp at h⟩
theorem All2.cons {R : Value → AV → Prop} {v : Value} {x : AV} {l : List Value} {m : List AV} (h : R v x) (t : All2 R l m) : All2 R (v :: l) (x :: m) :=
  ⟨by simp [t.1], fun i a b ha hb => by
    cases i with
    | zero => simp at ha hb; subst ha; subst hb; exact h
    | succ i => simp at ha hb; exact t.2 i a b ha hb⟩
theorem All2.append {R : Value → AV → Prop} {l l' : List Value} {m m' : List AV} (h : All2 R l m) (h' : All2 R l' m') : All2 R (l ++ l') (m ++ m') := by
  refine ⟨by simp [h.1, h'.1], fun i a b ha hb => ?_⟩
  rw [List.getElem?_append] at ha hb
  have := h.1
  by_cases hi : i < l.length
  · rw [if_pos hi] at ha; rw [if_pos (by omega)] at hb; exact h.2 i a b ha hb
  · rw [if_neg hi] at ha; rw [if_neg (by omega), ← this] at hb; exact h'.2 _ a b ha hb
theorem All2.take {R : Value → AV → Prop} {l : List Value} {m : List AV} (h : All2 R l m) (n : Nat) : All2 R (l.take n) (m.take n) := by
  refine ⟨by simp [h.1], fun i a b ha hb => ?_⟩
  rw [List.getElem?_take] at ha hb
  split at ha
  · rename_i hi; rw [if_pos hi] at hb; exact h.2 i a b ha hb
  · cases ha
theorem All2.drop {R : Value → AV → Prop} {l : List Value} {m : List AV} (h : All2 R l m) (n : Nat) : All2 R (l.drop n) (m.drop n) := by
  refine ⟨by simp [h.1], fun i a b ha hb => ?_⟩
  rw [List.getElem?_drop] at ha hb
  exact h.2 _ a b ha hb
theorem All2.get {R : Value → AV → Prop} {l : List Value} {m : List AV} (h : All2 R l m) {i : Nat} {x : AV} (hx : m[i]? = some x) : ∃ v, l[i]? = some v ∧ R v x := by
  obtain ⟨hi, he⟩ := List.getElem?_eq_some_iff.1 hx
  have hl : i < l.length := by rw [h.1]; exact hi
  exact ⟨l[i], List.getElem?_eq_getElem hl, h.2 i _ _ (List.getElem?_eq_getElem hl) hx⟩
theorem All2.of_map {R : Value → AV → Prop} {α : Type} (f : α → Value) (g : α → AV) (h : ∀ a, R (f a) (g a)) : ∀ l : List α, All2 R (l.map f) (l.map g)
  | [] => All2.nil R
  | a :: l => All2.cons (h a) (All2.of_map f g h l)

/-- The cells that lie somewhere, as a list. -/
theorem Lie.list {w : World} {per : Nat → Nat → Prop} {R : Value → AV → Prop} {b o : Nat} {xs : List AV} (h : Lie w per R b o xs) :
    ∃ cs : List Value, All2 R cs xs ∧ ∀ j v, cs[j]? = some v → w.cell? ⟨b, o + j, none⟩ = some v := by
  induction xs generalizing o with
  | nil => exact ⟨[], All2.nil R, fun j v h => by simp at h⟩
  | cons x xs ih =>
    obtain ⟨-, c, hc, hr⟩ := h 0 x (by simp)
    obtain ⟨cs, h1, h2⟩ := ih (o := o + 1) (fun i y hy => by
      have := h (i + 1) y (by simpa using hy)
      rwa [show o + (i + 1) = o + 1 + i by omega] at this)
    refine ⟨c :: cs, All2.cons hr h1, fun j v hv => ?_⟩
    cases j with
    | zero => simp at hv; subst hv; exact hc
    | succ j => simp at hv; rw [show o + (j + 1) = o + 1 + j by omega]; exact h2 j v hv

theorem Lie.drop {w : World} {per : Nat → Nat → Prop} {R : Value → AV → Prop} {b o : Nat} {xs : List AV} (h : Lie w per R b o xs) (n : Nat) : Lie w per R b (o + n) (xs.drop n) := fun i x hx => by
  rw [List.getElem?_drop] at hx
  have := h (n + i) x hx
  rwa [show o + (n + i) = o + n + i by omega] at this
theorem Lie.take {w : World} {per : Nat → Nat → Prop} {R : Value → AV → Prop} {b o : Nat} {xs : List AV} (h : Lie w per R b o xs) (n : Nat) : Lie w per R b o (xs.take n) := fun i x hx => by
  rw [List.getElem?_take] at hx
  split at hx
  · exact h i x hx
  · cases hx
end Go.Abs
