import Derived.Test.YtmoeoppbmhfbpaaGreatDoorEProgR
import Derived.Test.YtmoeoppbmhfbpaaGreatDoorERoaB
/- From the abstract machine to the row: numbers that came in. -/
namespace Go.Proofs.YtmoeoppbmhfbpaaGreatDoorE
open Go.Abs
open Go.RowKit (Below)
set_option linter.unusedSimpArgs false
set_option linter.unusedVariables false
set_option maxRecDepth 100000
theorem list_ofI {p : Nat → Int → Prop} : ∀ (n : Nat), (∀ i, i < n → ∃ o, p i o) → ∃ l : List Int, l.length = n ∧ ∀ i o, l[i]? = some o → p i o
 | 0, _ => ⟨[], rfl, fun i o h => by simp at h⟩
 | n + 1, h => by
  obtain ⟨l, hl, hp⟩ := list_ofI n fun i hi => h i (by omega)
  obtain ⟨o, ho⟩ := h n (by omega)
  refine ⟨l ++ [o], by simp [hl], fun i o' hi => ?_⟩
  rw [List.getElem?_append] at hi
  split at hi
  ·exact hp i o' hi
  ·rename_i hlt
   have : i = n := by
    by_cases e : i - l.length = 0
    ·omega
    ·rw [List.getElem?_eq_none (by simp; omega)] at hi; cases hi
   subst this
   rw [show i - l.length = 0 by omega] at hi
   simp at hi; subst hi; exact ho
theorem cellsI : Tryz.prog.cellsOf 3 = 1 := by kernel_rfl
theorem open_ints {H : Type} {enc : TypeId × Value → H} {W : World} {spare : Nat → Bool} {held : Bool} {fuel : Nat} {a : Option Addr} {len cap : Nat} {x : DataW H × List MemPlace} (h : DataW.trod enc Tryz.prog W 0 spare held fuel 25 [.slice a len cap] = some x) :
  ∃ (l : List Int), (∀ z ∈ l, R64 z) ∧ VR (gh0 W) st0 W (.slice a len cap) (sl 0 l.length (icells l)) := by
 rcases Deep.open_slice Tryz.underlying25 h with ⟨hcs, -⟩ | ⟨a', len', cap', m, n, D, Pl, hcs, -, hl, hm, hmm, -, hel⟩
 ·simp at hcs
  obtain ⟨rfl, rfl, rfl⟩ := hcs
  exact ⟨[], fun z hz => (List.not_mem_nil hz).elim, VR.fold ⟨none, 0, rfl, ⟨Nat.le_refl _, fun h => by omega⟩, fun h => absurd rfl h, fun k hk => by omega⟩⟩
 ·simp at hcs
  obtain ⟨rfl, rfl, rfl⟩ := hcs
  have hle : len ≤ m := by rw [hmm]; split <;> omega
  rw [cellsI] at hel
  have hone : ∀ i, i < len → ∃ o : Int, R64 o ∧ W.cell? (a'.add i) = some (.int .i64 o) := by
   intro i hi
   obtain ⟨cs', h1, h2⟩ := hel i (by omega)
   obtain ⟨o, rfl, -, hw⟩ := DataW.trod_int Tryz.underlying3 h2
   obtain ⟨-, -, h3⟩ := World.cells?_some h1
   have h4 := h3 0 (by decide)
   have hr : R64 o := by
    have e1 : IntKind.i64.min = -9223372036854775808 := by decide
    have e2 : IntKind.i64.max = 9223372036854775807 := by decide
    simp only [Lit.wf, IntKind.has, e1, e2, decide_eq_true_eq, Bool.and_eq_true] at hw
    exact hw
   refine ⟨o, hr, ?_⟩
   have e : (a'.add (i * 1)).add 0 = a'.add i := by
    obtain ⟨b, off, spot⟩ := a'
    unfold Addr.add
    split <;> split <;> simp_all <;> omega
   rw [← e]
   exact h4
  obtain ⟨l, hll, hp⟩ := list_ofI len hone
  refine ⟨l, fun z hz => ?_, VR.fold ⟨some a', cap, by rw [hll], ⟨by omega, fun h => by omega⟩, fun hne => ?_, fun k hk => by omega⟩⟩
  ·obtain ⟨i, hi⟩ := List.getElem?_of_mem hz
   exact (hp i z hi).1
  have hl0 : 0 < l.length := by
   cases l with
   | nil => exact absurd rfl hne
   | cons o r => simp
  obtain ⟨b, off, spot⟩ := a'
  have hc0 := (hp 0 l[0] (List.getElem?_eq_getElem hl0)).2
  have hc1 : W.cell? ⟨b, off, spot⟩ = some (.int .i64 l[0]) := by
   have e : (⟨b, off, spot⟩ : Addr).add 0 = ⟨b, off, spot⟩ := by unfold Addr.add; split <;> simp_all
   rw [← e]; exact hc0
  have hsp : spot = none := World.cell?_spot hc1
  subst hsp
  have hblk : b < W.heap.size := by
   unfold World.cell? at hc1
   rcases Nat.lt_or_ge b W.heap.size with h | h
   ·exact h
   ·simp [Array.getElem?_eq_none h] at hc1
  refine ⟨b, off, rfl, fun i x hx => ⟨hblk, ?_⟩⟩
  unfold icells at hx
  rw [List.getElem?_map] at hx
  cases hli : l[i]? with
  | none => rw [hli] at hx; cases hx
  | some z =>
   rw [hli] at hx
   cases hx
   refine ⟨.int .i64 z, ?_, VR.sc _⟩
   have := (hp i z hli).2
   rw [← this]
   congr 1
   unfold Addr.add
   split <;> simp_all <;> omega
end Go.Proofs.YtmoeoppbmhfbpaaGreatDoorE
