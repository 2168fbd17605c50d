import Derived.Test.YtmoeoppbmhfbpaaGreatDoorXSpaB
import Derived.Test.YtmoeoppbmhfbpaaGreatDoorXPrtF
import Derived.Test.YtmoeoppbmhfbpaaGreatDoorXProgR
import Derived.Test.YtmoeoppbmhfbpaaGreatDoorXSpaA
/- The program: Spare. -/
namespace Go.Proofs.YtmoeoppbmhfbpaaGreatDoorX
open Go.Abs
set_option linter.unusedSimpArgs false
set_option linter.unusedVariables false
set_option maxRecDepth 100000
/- Spare: what is found shows that the literal is spare. -/
theorem enc_fst (t : Tx) : (encT t).1 = variableB t := by
 cases t with
 | nil => rfl
 | cons b r =>
  unfold encT variableB
  dsimp only
  split
  ·rename_i h; rw [h]
  ·rename_i h; simp at h; rw [h]
def UT (t : Tx) : Prop := DT t ∧ WTerm t ∧ t.length ≤ 1000 ∧ (variableB t = true → ∃ k : Nat, k < 26 ∧ t = [letB k])
theorem UT.enc {t : Tx} (h : UT t) (hv : variableB t = true) : ∃ k : Nat, k < 26 ∧ t = [letB k] ∧ encT t = (true, (k : Int)) := by
 obtain ⟨k, hk, rfl⟩ := h.2.2.2 hv
 refine ⟨k, hk, rfl, ?_⟩
 rw [encT_large (let_large (by omega) (by omega)), let_toNat (by omega) (by omega)]
 congr 1; omega
theorem tellU : Tell encT UT where
 var := fun t _ => enc_fst t
 inj := fun t u ht hu h => by
  have hv : variableB t = variableB u := by rw [← enc_fst, ← enc_fst, h]
  cases hb : variableB t with
  | true =>
   obtain ⟨k, hk, rfl, e1⟩ := ht.enc hb
   obtain ⟨j, hj, rfl, e2⟩ := hu.enc (by rw [← hv]; exact hb)
   rw [e1, e2] at h
   have : (k : Int) = j := congrArg (·.2) h
   rw [this]
  | false =>
   rcases ht.1 with h1 | ⟨-, h1, -⟩
   ·rw [hb] at h1; cases h1
   rcases hu.1 with h2 | ⟨-, h2, -⟩
   ·rw [← hv, hb] at h2; cases h2
   rw [← h1, ← h2, h]
 pos := fun t ht hv => by
  obtain ⟨k, -, -, e⟩ := ht.enc hv
  rw [e]; exact Int.natCast_nonneg _
theorem UT.varOk {t : Tx} (h : UT t) : varOk t := fun hv => by
 rw [enc_fst] at hv
 obtain ⟨k, hk, -, e⟩ := h.enc hv
 exact ⟨k, hk, by rw [e]⟩
theorem UT.dec {t : Tx} (h : UT t) : decE (encT t) = t ∧ okE (encT t) := by
 have hd : decE (encT t) = t := by
  cases hv : variableB t with
  | true =>
   obtain ⟨k, hk, rfl, e⟩ := h.enc hv
   rw [e]
   unfold decE
   rw [if_pos rfl, letB_small (by omega) (by omega)]
  | false =>
   rcases h.1 with h1 | ⟨-, h1, -⟩
   ·rw [hv] at h1; cases h1
   ·unfold decE
    rw [if_neg (by rw [enc_fst, hv]; simp), h1]
 refine ⟨hd, ?_, ?_, ?_, by rw [hd]; exact h.2.2.1⟩
 ·cases hv : variableB t with
  | true => obtain ⟨k, hk, -, e⟩ := h.enc hv; rw [e]; exact Int.natCast_nonneg _
  | false =>
   rcases h.1 with h1 | h1
   ·rw [hv] at h1; cases h1
   ·exact h1.2.2.1
 ·intro hb
  rw [enc_fst] at hb
  obtain ⟨k, hk, -, e⟩ := h.enc hb
  rw [e]; show (k : Int) < 26; omega
 ·cases hv : variableB t with
  | true => obtain ⟨k, hk, -, e⟩ := h.enc hv; rw [e]; show (k : Int) ≤ 999; omega
  | false =>
   rcases h.1 with h1 | h1
   ·rw [hv] at h1; cases h1
   ·exact h1.2.2.2
/-! ### What is found -/
section
variable {N : List Tx} {y : RItem} {k : Nat} {s0 s : Sw}
end
/- Spare: the renamed rule and the rule say the same. -/
set_option linter.unusedSectionVars false
structure XR (x : RItem) : Prop where
 dt : ∀ a ∈ atomsL x, ∀ t ∈ a.terms, DT t ∧ WTerm t ∧ t.length ≤ 1000
 out : x.out = false
 few : (ordL x).length ≤ 26
section
variable {x : RItem} (hx : XR x)
include hx
end
/- The program: Spare of a text. -/
structure Right (t : Tx) (N : List Tx) (l : List RItem) (cs : List AV) : Prop where
 ok : (refCheck t).1 = 0
 len : t.length ≤ 600
 parse : pItems 16 t = .got l []
 bk : Bk N l cs
 wit : ∀ x ∈ l, WItem x
theorem Right.items {t : Tx} {N : List Tx} {l : List RItem} {cs : List AV} (h : Right t N l cs) : itemsL t = l := (parse_good (by have := h.len; omega) h.parse).2.1
theorem Right.wi {t : Tx} {N : List Tx} {l : List RItem} {cs : List AV} (h : Right t N l cs) : ∀ x ∈ l, WI N x := wi_of (by have := h.len; omega) h.parse h.bk h.wit
theorem ord18 {x : RItem} (hw : WItem x) : (ordL x).length ≤ 18 := by
 have h3 := ordT_len ((atomsL x).flatMap (·.terms)) []
 obtain ⟨q1, q2, q3⟩ := hw
 have h4 : (atomsL x).length ≤ 6 ∧ ∀ b ∈ atomsL x, b.terms.length ≤ 3 := by
  cases ho : x.out with
  | true =>
   obtain ⟨-, -, e⟩ := q2 ho
   simp [atomsL, ho, e]
  | false =>
   obtain ⟨e1, -, e2, e3⟩ := q3 ho
   refine ⟨by simp [atomsL, ho]; omega, fun b hb => ?_⟩
   simp [atomsL, ho] at hb
   rcases hb with rfl | hb
   ·exact e1.2.2.1
   ·exact (e3 b hb).2.2.1
 have h5 := flat_len h4.2
 unfold ordL
 rw [List.length_nil, Nat.zero_add] at h3
 omega
theorem firstM_neg {p : Nat → Bool} {n : Nat} (h : ¬ 0 ≤ firstN p n) : ∀ i, i < n → p i = false := by
 intro i hi
 unfold firstN at h
 split at h
 ·rename_i j hj; exact absurd (Int.natCast_nonneg j) h
 ·rename_i hn
  rw [List.find?_eq_none] at hn
  simpa using hn i (by simpa using hi)
theorem right_len {t : Tx} (h : (refCheck t).1 = 0) : ∀ x ∈ itemsL t, ∀ a ∈ atomsL x, ∀ b ∈ atomsL x, a.pred = b.pred → a.terms.length = b.terms.length := by
 have hodd : ∀ i, i < (itemsL t).length → oddP (itemsL t) i = false := by
  unfold refCheck at h
  split at h
  ·simp at h
  split at h
  ·simp at h
  unfold wrongM at h
  split at h
  ·simp at h
  ·rename_i hk; exact firstM_neg hk
 intro x hx a ha b hb he
 obtain ⟨i, hi⟩ := List.getElem?_of_mem hx
 have h1 := hodd i (List.getElem?_eq_some_iff.1 hi).1
 unfold oddP at h1
 rw [hi] at h1
 simp only [List.any_eq_false, List.mem_range] at h1
 obtain ⟨j, hj⟩ := List.getElem?_of_mem ha
 obtain ⟨k, hk⟩ := List.getElem?_of_mem hb
 have hjl := (List.getElem?_eq_some_iff.1 hj).1
 have hkl := (List.getElem?_eq_some_iff.1 hk).1
 have key : ∀ (j k : Nat) (a b : RAtom), (atomsL x)[j]? = some a → (atomsL x)[k]? = some b → k < j → a.pred = b.pred → a.terms.length = b.terms.length := by
  intro j k a b hj hk hlt he
  have h2 := h1 j (List.getElem?_eq_some_iff.1 hj).1
  unfold oddAt at h2
  rw [hj] at h2
  simp only [List.any_eq_true, not_exists, not_and] at h2
  have h3 := h2 b (by
   unfold seenL
   exact List.mem_append.2 (.inr (List.mem_of_getElem? (i := k) (by rw [List.getElem?_take, if_pos hlt]; exact hk))))
  unfold clash at h3
  simp [he] at h3
  exact h3.symm
 rcases Nat.lt_trichotomy j k with hlt | rfl | hgt
 ·exact (key k j b a hk hj hlt he.symm).symm
 ·rw [hj] at hk; cases hk; rfl
 ·exact key j k a b hj hk hgt he
/- What Print writes of a right program is short, and is read again. -/
theorem uMore_le {α : Type} (g h : α → Tx) : ∀ l : List α, (∀ a ∈ l, (g a).length ≤ (h a).length) → (uMore (l.map g)).length ≤ (uMore (l.map h)).length
 | [], _ => by simp [uMore]
 | a :: l, hl => by
  have h1 := uMore_le g h l fun b hb => hl b (by simp [hb])
  have h2 := hl a (by simp)
  unfold uMore at *
  simp only [List.map_cons, List.flatMap_cons, List.length_append, List.length_cons]
  omega
theorem uList_le {α : Type} (g h : α → Tx) : ∀ l : List α, (∀ a ∈ l, (g a).length ≤ (h a).length) → (uList (l.map g)).length ≤ (uList (l.map h)).length
 | [], _ => by simp [uList]
 | a :: l, hl => by
  have h1 := uMore_le g h l fun b hb => hl b (by simp [hb])
  have h2 := hl a (by simp)
  simp only [List.map_cons, uList, List.length_append]
  omega
theorem wrT_le {l : List Tx} {t : Tx} (h : WTerm t) : (wrT l t).length ≤ t.length := by
 unfold wrT
 split
 ·have := List.length_pos_iff.2 h.1
  simp only [List.length_cons, List.length_nil]; omega
 ·exact Nat.le_refl _
theorem uAtom_le {l : List Tx} {a : RAtom} (h : WAtom a) : (uAtom (renA l a)).length ≤ (uAtom a).length := by
 have h1 := uList_le (wrT l) id a.terms fun t ht => wrT_le (h.2.2.2 t ht)
 rw [List.map_id] at h1
 unfold uAtom renA
 simp only [List.length_append, List.length_cons, List.length_nil]
 omega
theorem uLit_le {l : List Tx} {a : RAtom} (h : WAtom a) : (uLit (renA l a)).length ≤ (uLit a).length := by
 have h1 := uAtom_le (l := l) h
 unfold uLit
 rw [List.length_append, List.length_append]
 show (if a.nt = true then [33] else ([] : Tx)).length + _ ≤ _
 omega
theorem uItem_le {x : RItem} (h : WItem x) : (uItem (ren x)).length ≤ (uItem x).length := by
 unfold uItem
 cases ho : x.out with
 | true =>
  rw [if_pos (by simp [ren, ho]), if_pos rfl]
  simp [ren, renA]
 | false =>
  obtain ⟨q1, -, -, q3⟩ := h.2.2 ho
  rw [if_neg (by simp [ren, ho]), if_neg (by simp)]
  have h1 := uAtom_le (l := ordL x) q1
  have h2 := uList_le (fun a => uLit (renA (ordL x) a)) uLit x.body fun a ha => uLit_le (q3 a ha)
  unfold uRule
  show (uAtom (renA (ordL x) x.head) ++ (if x.body.map (renA (ordL x)) = [] then [] else 58 :: 45 :: uList ((x.body.map (renA (ordL x))).map uLit))).length ≤ _
  rw [List.map_map, List.length_append, List.length_append]
  by_cases hb : x.body = []
  ·rw [if_pos (by simp [hb]), if_pos hb]; simpa using h1
  ·rw [if_neg (by simpa using hb), if_neg hb]
   simp only [List.length_cons]
   have h3 : (uList (x.body.map (uLit ∘ renA (ordL x)))).length ≤ (uList (x.body.map uLit)).length := h2
   omega
theorem uItems_le : ∀ l : List RItem, (∀ x ∈ l, WItem x) → (uItems (l.map ren)).length ≤ (uItems l).length
 | [], _ => by simp [uItems]
 | x :: l, h => by
  have h1 := uItems_le l fun y hy => h y (by simp [hy])
  have h2 := uItem_le (h x (by simp))
  unfold uItems at *
  simp only [List.map_cons, List.flatMap_cons, List.length_append, List.length_cons, List.length_nil]
  omega
/- The document's own answer: pairs, agree, ways. -/
/- The document's own answer: agree, ways. -/
/- The document's own answer: shows; a rule without a literal. -/
/- The document's own answer: a rule without a literal; whether it is spare; Needs. -/
theorem right_items {t : Tx} (he : (refCheck t).1 = 0) : t.length ≤ 600 ∧ ∃ l r, pItems 16 t = .got l r := by
 have hlen : t.length ≤ 600 := by
  by_cases hl : 600 < t.length
  ·unfold refCheck at he; rw [if_pos hl] at he; simp at he
  ·omega
 refine ⟨hlen, ?_⟩
 have hp := placeL_parse t
 cases h : pItems 16 t with
 | got l r => exact ⟨l, r, rfl⟩
 | bad e =>
  rw [h] at hp
  have hp : placeL t = ((t.length - e.length : Nat) : Int) := hp
  unfold refCheck at he
  rw [if_neg (by omega), hp, if_pos (Int.natCast_nonneg _)] at he
  simp at he
/- The document's own answer: stands, same, within, lands. -/
/- The document's own answer: within, lands. -/
end Go.Proofs.YtmoeoppbmhfbpaaGreatDoorX
