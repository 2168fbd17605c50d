import Derived.Test.YtilaanolklhkaaaGreatDoorZRefH
/- The document's own answer: the first number. -/
namespace Go.Proofs.YtilaanolklhkaaaGreatDoorZ
open Go.Abs
set_option linter.unusedSimpArgs false
set_option linter.unusedVariables false
set_option maxRecDepth 100000

/-- the first number below n that p names, or -1 -/
def firstN (p : Nat → Bool) (n : Nat) : Int := match (List.range n).find? p with | some i => (i : Int) | none => -1
theorem firstN_hit {p : Nat → Bool} {n i : Nat} (hi : i < n) (hp : p i = true) (hn : ∀ a, a < i → p a = false) : firstN p n = i := by
  unfold firstN
  have : (List.range n).find? p = some i := by
    rw [List.find?_range_eq_some]
    exact ⟨hp, by simpa using hi, fun a ha => by simp [hn a ha]⟩
  rw [this]
theorem firstN_none {p : Nat → Bool} {n : Nat} (hn : ∀ a, a < n → p a = false) : firstN p n = -1 := by
  unfold firstN
  have : (List.range n).find? p = none := by
    rw [List.find?_eq_none]
    intro a ha
    simp [hn a (by simpa using ha)]
  rw [this]
end Go.Proofs.YtilaanolklhkaaaGreatDoorZ
