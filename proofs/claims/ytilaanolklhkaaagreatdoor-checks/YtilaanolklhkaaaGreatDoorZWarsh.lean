import Derived.Test.YtilaanolklhkaaaGreatDoorZGramD
/- Ways through rules, and through predicates. -/
namespace Go.Proofs.YtilaanolklhkaaaGreatDoorZ
open Go.Abs
set_option linter.unusedSimpArgs false
set_option linter.unusedVariables false

inductive Way {α : Type} (E : α → α → Prop) : α → α → Prop
  | one {a b : α} : E a b → Way E a b
  | more {a b c : α} : E a b → Way E b c → Way E a c
theorem Way.join {α : Type} {E : α → α → Prop} {a b c : α} (h : Way E a b) (k : Way E b c) : Way E a c := by
  induction h with
  | one e => exact .more e k
  | more e _ ih => exact .more e (ih k)

def Supp (n : Nat) (M : Nat → Nat → Bool) : Prop := ∀ a b, M a b = true → a < n ∧ b < n
theorem fwR_at {n : Nat} {M : Nat → Nat → Bool} (hM : Supp n M) : ∀ (m : Nat), m ≤ n → Supp n (fwR n M m) ∧ (∀ a b, M a b = true → fwR n M m a b = true) ∧ (∀ a b, fwR n M m a b = true → Way (fun a b => M a b = true) a b) ∧
    (∀ a b c, b < m → fwR n M m a b = true → fwR n M m b c = true → fwR n M m a c = true) := by
  intro m
  induction m with
  | zero => intro _; exact ⟨hM, fun _ _ h => h, fun _ _ h => .one h, fun _ _ _ h => by omega⟩
  | succ m ih =>
    intro hm
    obtain ⟨h1, h2, h3, h4⟩ := ih (by omega)
    have e : ∀ a b, fwR n M (m + 1) a b = true ↔ fwR n M m a b = true ∨ (fwR n M m a m = true ∧ fwR n M m m b = true) := by
      intro a b
      show fwN n (fwR n M m) m a b = true ↔ _
      unfold fwN fw
      split
      · simp
      · rename_i hn
        constructor
        · exact .inl
        · rintro (h | ⟨ha, hb⟩)
          · exact h
          · exact absurd ⟨(h1 _ _ ha).1, (h1 _ _ hb).2⟩ hn
    refine ⟨?_, ?_, ?_, ?_⟩
    · intro a b h
      rcases (e a b).1 h with h | ⟨ha, hb⟩
      · exact h1 _ _ h
      · exact ⟨(h1 _ _ ha).1, (h1 _ _ hb).2⟩
    · intro a b h; exact (e a b).2 (.inl (h2 _ _ h))
    · intro a b h
      rcases (e a b).1 h with h | ⟨ha, hb⟩
      · exact h3 _ _ h
      · exact (h3 _ _ ha).join (h3 _ _ hb)
    · intro a b c hb hab hbc
      rw [e] at hab hbc ⊢
      by_cases hbm : b = m
      · subst hbm
        have g1 : fwR n M b a b = true := by rcases hab with h | ⟨h, _⟩ <;> exact h
        have g2 : fwR n M b b c = true := by rcases hbc with h | ⟨_, h⟩ <;> exact h
        exact .inr ⟨g1, g2⟩
      · have hlt : b < m := by omega
        rcases hab with hab | ⟨ha, hb'⟩ <;> rcases hbc with hbc | ⟨hb2, hc⟩
        · exact .inl (h4 _ _ _ hlt hab hbc)
        · exact .inr ⟨h4 _ _ _ hlt hab hb2, hc⟩
        · exact .inr ⟨ha, h4 _ _ _ hlt hb' hbc⟩
        · exact .inr ⟨ha, hc⟩
theorem fwR_iff {n : Nat} {M : Nat → Nat → Bool} (hM : Supp n M) (a b : Nat) : fwR n M n a b = true ↔ Way (fun a b => M a b = true) a b := by
  obtain ⟨h1, h2, h3, h4⟩ := fwR_at hM n (Nat.le_refl _)
  refine ⟨h3 a b, fun h => ?_⟩
  induction h with
  | one e => exact h2 _ _ e
  | more e _ ih => exact h4 _ _ _ (hM _ _ e).2 (h2 _ _ e) ih

theorem webM_iff (l : List RItem) (i k : Nat) : webM l i k = true ↔ Way (fun a b => edge l a b = true) i k := by
  have he : ∀ a b, edge l a b = true → a < l.length ∧ b < l.length := by
    intro a b h
    unfold edge at h
    split at h
    · rename_i x y hx hy
      exact ⟨(List.getElem?_eq_some_iff.1 hx).1, (List.getElem?_eq_some_iff.1 hy).1⟩
    · cases h
  have e : (fun a b => if a < l.length ∧ b < l.length then edge l a b else false) = edge l := by
    funext a b
    split
    · rfl
    · rename_i hn
      cases hq : edge l a b with
      | false => rfl
      | true => exact absurd (he a b hq) hn
  unfold webM
  rw [e]
  exact fwR_iff he i k

/-- p is in the head of a rule that has q in its body -/
def atOnce (l : List RItem) (p q : Tx) : Prop := ∃ x ∈ l, x.head.pred = p ∧ ∃ a ∈ x.body, a.pred = q
theorem edge_iff {l : List RItem} {i k : Nat} : edge l i k = true ↔ ∃ x y, l[i]? = some x ∧ l[k]? = some y ∧ y.out = false ∧ ∃ a ∈ x.body, a.pred = y.head.pred := by
  unfold edge
  constructor
  · intro h
    split at h
    · rename_i x y hx hy
      refine ⟨x, y, hx, hy, ?_⟩
      simp at h
      exact h
    · cases h
  · rintro ⟨x, y, hx, hy, h1, a, ha, h2⟩
    rw [hx, hy]
    simp only [h1, Bool.not_false, Bool.true_and]
    exact List.any_eq_true.2 ⟨a, ha, by simp [h2]⟩

theorem way_rules {l : List RItem} {i k : Nat} (h : Way (fun a b => edge l a b = true) i k) : ∃ x y, l[i]? = some x ∧ l[k]? = some y ∧ y.out = false ∧ Way (atOnce l) x.head.pred y.head.pred := by
  induction h with
  | one e =>
    obtain ⟨x, y, hx, hy, h1, a, ha, h2⟩ := edge_iff.1 e
    exact ⟨x, y, hx, hy, h1, .one ⟨x, List.mem_of_getElem? hx, rfl, a, ha, h2⟩⟩
  | more e _ ih =>
    obtain ⟨x, y, hx, hy, h1, a, ha, h2⟩ := edge_iff.1 e
    obtain ⟨x', z, hx', hz, h3, h4⟩ := ih
    rw [hy] at hx'
    cases hx'
    exact ⟨x, z, hx, hz, h3, .more ⟨x, List.mem_of_getElem? hx, rfl, a, ha, h2⟩ h4⟩
theorem way_preds {l : List RItem} (ho : ∀ x ∈ l, x.out = true → x.body = []) {p q : Tx} (h : Way (atOnce l) p q) : ∀ (k : Nat) (y : RItem), l[k]? = some y → y.out = false → y.head.pred = q → ∃ (i : Nat) (x : RItem), l[i]? = some x ∧ x.head.pred = p ∧ Way (fun a b => edge l a b = true) i k := by
  induction h with
  | one e =>
    intro k y hk hy hq
    obtain ⟨x, hx, h1, a, ha, h2⟩ := e
    obtain ⟨i, hi⟩ := List.getElem?_of_mem hx
    exact ⟨i, x, hi, h1, .one (edge_iff.2 ⟨x, y, hi, hk, hy, a, ha, by rw [h2, hq]⟩)⟩
  | more e _ ih =>
    intro k y hk hy hq
    obtain ⟨x, hx, h1, a, ha, h2⟩ := e
    obtain ⟨i, hi⟩ := List.getElem?_of_mem hx
    obtain ⟨j, z, hj, h3, h4⟩ := ih k y hk hy hq
    have hz : z.out = false := by
      have hne : z.body ≠ [] := by
        cases h4 with
        | one e =>
          obtain ⟨z', _, hz', _, _, a, ha, _⟩ := edge_iff.1 e
          rw [hj] at hz'; cases hz'
          intro hn; rw [hn] at ha; cases ha
        | more e _ =>
          obtain ⟨z', _, hz', _, _, a, ha, _⟩ := edge_iff.1 e
          rw [hj] at hz'; cases hz'
          intro hn; rw [hn] at ha; cases ha
      cases hb : z.out with
      | false => rfl
      | true => exact absurd (ho z (List.mem_of_getElem? hj) hb) hne
    exact ⟨i, x, hi, h1, .more (edge_iff.2 ⟨x, z, hi, hj, hz, a, ha, by rw [h2, h3]⟩) h4⟩

theorem usesB_iff {l : List RItem} (ho : ∀ x ∈ l, x.out = true → x.body = []) {p q : Tx} (hq : ∃ y ∈ l, y.out = false ∧ y.head.pred = q) : usesB l p q = true ↔ Way (atOnce l) p q := by
  unfold usesB
  constructor
  · intro h
    rw [List.any_eq_true] at h
    obtain ⟨i, -, h⟩ := h
    rw [List.any_eq_true] at h
    obtain ⟨k, -, h⟩ := h
    unfold hitU at h
    simp only [Bool.and_eq_true, beq_iff_eq] at h
    obtain ⟨⟨h1, h2⟩, h3⟩ := h
    obtain ⟨x, y, hx, hy, _, hw⟩ := way_rules ((webM_iff l i k).1 h1)
    unfold headOf at h2 h3
    rw [hx] at h2
    rw [hy] at h3
    rw [← h2, ← h3]
    exact hw
  · intro h
    obtain ⟨y, hy, h1, h2⟩ := hq
    obtain ⟨k, hk⟩ := List.getElem?_of_mem hy
    obtain ⟨i, x, hi, h3, h4⟩ := way_preds ho h k y hk h1 h2
    rw [List.any_eq_true]
    refine ⟨i, by simpa using (List.getElem?_eq_some_iff.1 hi).1, ?_⟩
    rw [List.any_eq_true]
    refine ⟨k, by simpa using (List.getElem?_eq_some_iff.1 hk).1, ?_⟩
    unfold hitU headOf
    rw [(webM_iff l i k).2 h4, hi, hk]
    simp [h2, h3]
end Go.Proofs.YtilaanolklhkaaaGreatDoorZ
