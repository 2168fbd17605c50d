import Derived.Test.YtmoeoppbmhfbpaaGreatDoorBPrtD
/- The program: Stratum. -/
namespace Go.Proofs.YtmoeoppbmhfbpaaGreatDoorB
open Go.Abs
set_option linter.unusedSimpArgs false
set_option linter.unusedVariables false
set_option maxRecDepth 100000
/- The document's own answer: what is ruled; what holds of a set of rules. -/
def ruledI (p : Tx) (x : RItem) : Bool := !x.out && x.head.pred == p
def ruledL (l : List RItem) (p : Tx) : Bool := l.any (ruledI p)
def holdsI (f : Nat → Bool) (l : List RItem) (p : Tx) (i : Nat) : Bool := match l[i]? with | some x => ruledI p x && f i | none => false
def holdsL (f : Nat → Bool) (l : List RItem) (p : Tx) : Bool := (List.range l.length).any (holdsI f l p)
/- The strata: the document's number and the program's are one. -/
/-! ### How often a predicate can come to a negated literal -/
def Rch (l : List RItem) (p q : Tx) : Prop := p = q ∨ Way (atOnce l) p q
theorem Rch.trans {l : List RItem} {p q r : Tx} (h : Rch l p q) (k : Rch l q r) : Rch l p r := by
 rcases h with rfl | h
 ·exact k
 ·rcases k with rfl | k
  ·exact .inr h
  ·exact .inr (h.join k)
def HH (l : List RItem) : Nat → Tx → Prop
 | 0, _ => True
 | k + 1, p => ∃ x ∈ l, Rch l p x.head.pred ∧ ∃ a ∈ x.body, a.nt = true ∧ HH l k a.pred
theorem HH_reach {l : List RItem} {k : Nat} {p q : Tx} (h : Rch l p q) (hq : HH l k q) : HH l k p := by
 cases k with
 | zero => trivial
 | succ k =>
  obtain ⟨x, hx, hr, hb⟩ := hq
  exact ⟨x, hx, h.trans hr, hb⟩
theorem HH_dec {l : List RItem} : ∀ (k : Nat) (p : Tx), HH l (k + 1) p → HH l k p
 | 0, p, _ => trivial
 | k + 1, p, ⟨x, hx, hr, a, ha, hn, hh⟩ => ⟨x, hx, hr, a, ha, hn, HH_dec k a.pred hh⟩
theorem HH_le {l : List RItem} {p : Tx} {m : Nat} : ∀ (d : Nat), HH l (m + d) p → HH l m p
 | 0, h => h
 | d + 1, h => HH_le d (HH_dec _ _ h)
theorem pigeon {α : Type} [BEq α] [LawfulBEq α] : ∀ (a b : List α), a.Nodup → (∀ x ∈ a, x ∈ b) → a.length ≤ b.length
 | [], b, _, _ => Nat.zero_le _
 | x :: a, b, hn, hs => by
  have hx := hs x (by simp)
  have hn' := List.nodup_cons.1 hn
  have h1 := pigeon a (b.erase x) hn'.2 fun y hy => (List.mem_erase_of_ne (fun e => hn'.1 (by rw [← e]; exact hy))).2 (hs y (by simp [hy]))
  rw [List.length_erase_of_mem hx] at h1
  have h2 : 0 < b.length := List.length_pos_of_mem hx
  simp only [List.length_cons]
  omega
def Loose (l : List RItem) : Prop := ∀ x ∈ l, ∀ a ∈ x.body, a.nt = true → ¬ Rch l a.pred x.head.pred
theorem HH_chain {l : List RItem} (hL : Loose l) : ∀ (k : Nat) (p : Tx), HH l k p → ∃ qs : List Tx, qs.length = k ∧ qs.Nodup ∧ ∀ q ∈ qs, q ∈ l.map (·.head.pred) ∧ Rch l p q
 | 0, p, _ => ⟨[], rfl, List.nodup_nil, fun q h => by cases h⟩
 | k + 1, p, ⟨x, hx, hr, a, ha, hn, hh⟩ => by
  obtain ⟨qs, h1, h2, h3⟩ := HH_chain hL k a.pred hh
  refine ⟨x.head.pred :: qs, by simp [h1], List.nodup_cons.2 ⟨fun hm => hL x hx a ha hn (h3 _ hm).2, h2⟩, fun q hq => ?_⟩
  rcases List.mem_cons.1 hq with rfl | hq
  ·exact ⟨List.mem_map.2 ⟨x, hx, rfl⟩, hr⟩
  ·exact ⟨(h3 q hq).1, hr.trans (Rch.trans (.inr (.one ⟨x, hx, rfl, a, ha, rfl⟩)) (h3 q hq).2)⟩
theorem HH_bound {l : List RItem} (hL : Loose l) {k : Nat} {p : Tx} (h : HH l k p) : k ≤ l.length := by
 obtain ⟨qs, h1, h2, h3⟩ := HH_chain hL k p h
 have := pigeon qs (l.map (·.head.pred)) h2 fun q hq => (h3 q hq).1
 rw [List.length_map] at this
 omega
/-! ### The document's number -/
def hitH (l : List RItem) (f : Nat → Bool) (counts : Bool) (x : RItem) : Bool := x.body.any fun a => a.nt && (counts && !ruledL l a.pred || holdsL f l a.pred)
def hitJ (l : List RItem) (f : Nat → Bool) (counts : Bool) (j : Nat) : Bool := match l[j]? with | some x => hitH l f counts x | none => false
def higherL (l : List RItem) (f : Nat → Bool) (counts : Bool) (i : Nat) : Bool := (List.range l.length).any fun j => hitJ l f counts j && (i == j || webM l i j)
def inK (l : List RItem) : Nat → Nat → Bool
 | 0 => fun i => decide (i < l.length)
 | k + 1 => higherL l (inK l k) (k == 0)
theorem ruled_iff {l : List RItem} {p : Tx} : ruledL l p = true ↔ ∃ x ∈ l, x.out = false ∧ x.head.pred = p := by
 unfold ruledL ruledI
 rw [List.any_eq_true]
 simp
theorem holds_iff {l : List RItem} {f : Nat → Bool} {p : Tx} : holdsL f l p = true ↔ ∃ i x, l[i]? = some x ∧ x.out = false ∧ x.head.pred = p ∧ f i = true := by
 unfold holdsL
 rw [List.any_eq_true]
 constructor
 ·rintro ⟨i, hi, h⟩
  unfold holdsI at h
  split at h
  ·rename_i x hx
   simp [ruledI] at h
   exact ⟨i, x, hx, h.1.1, h.1.2, h.2⟩
  ·cases h
 ·rintro ⟨i, x, hx, h1, h2, h3⟩
  refine ⟨i, by simpa using (List.getElem?_eq_some_iff.1 hx).1, ?_⟩
  unfold holdsI
  rw [hx]
  simp [ruledI, h1, h2, h3]
theorem hit_iff {l : List RItem} {f : Nat → Bool} {counts : Bool} {x : RItem} : hitH l f counts x = true ↔ ∃ a ∈ x.body, a.nt = true ∧ ((counts = true ∧ ruledL l a.pred = false) ∨ holdsL f l a.pred = true) := by
 unfold hitH
 rw [List.any_eq_true]
 simp
theorem higher_iff {l : List RItem} {f : Nat → Bool} {counts : Bool} {i : Nat} : higherL l f counts i = true ↔ ∃ j y, l[j]? = some y ∧ hitH l f counts y = true ∧ (i = j ∨ Way (fun a b => edge l a b = true) i j) := by
 unfold higherL
 rw [List.any_eq_true]
 constructor
 ·rintro ⟨j, hj, h⟩
  simp only [Bool.and_eq_true, Bool.or_eq_true, beq_iff_eq] at h
  obtain ⟨h1, h2⟩ := h
  unfold hitJ at h1
  split at h1
  ·rename_i y hy
   exact ⟨j, y, hy, h1, by rw [← webM_iff]; exact h2⟩
  ·cases h1
 ·rintro ⟨j, y, hy, h1, h2⟩
  refine ⟨j, by simpa using (List.getElem?_eq_some_iff.1 hy).1, ?_⟩
  simp only [Bool.and_eq_true, Bool.or_eq_true, beq_iff_eq]
  refine ⟨?_, by rw [webM_iff]; exact h2⟩
  unfold hitJ
  rw [hy]
  exact h1
theorem body_rule {l : List RItem} (ho : ∀ x ∈ l, x.out = true → x.body = []) {x : RItem} (hx : x ∈ l) {a : RAtom} (ha : a ∈ x.body) : x.out = false := by
 cases h : x.out with
 | false => rfl
 | true => rw [ho x hx h] at ha; cases ha
theorem holds_all {l : List RItem} {p : Tx} (h : ruledL l p = true) : holdsL (inK l 0) l p = true := by
 obtain ⟨x, hx, h1, h2⟩ := ruled_iff.1 h
 obtain ⟨i, hi⟩ := List.getElem?_of_mem hx
 exact holds_iff.2 ⟨i, x, hi, h1, h2, by simpa [inK] using (List.getElem?_eq_some_iff.1 hi).1⟩
theorem holds_HH {l : List RItem} (ho : ∀ x ∈ l, x.out = true → x.body = []) : ∀ (k : Nat) (p : Tx), holdsL (inK l (k + 1)) l p = true ↔ HH l (k + 1) p := by
 intro k
 induction k with
 | zero =>
  intro p
  rw [holds_iff]
  constructor
  ·rintro ⟨i, x, hx, h1, rfl, h3⟩
   obtain ⟨j, y, hy, hh, hw⟩ := higher_iff.1 h3
   obtain ⟨a, ha, hn, -⟩ := hit_iff.1 hh
   refine ⟨y, List.mem_of_getElem? hy, ?_, a, ha, hn, trivial⟩
   rcases hw with rfl | hw
   ·rw [hx] at hy; cases hy; exact .inl rfl
   ·obtain ⟨x', y', hx', hy', -, hw⟩ := way_rules hw
    rw [hx] at hx'; cases hx'
    rw [hy] at hy'; cases hy'
    exact .inr hw
  ·rintro ⟨y, hy, hr, a, ha, hn, -⟩
   obtain ⟨j, hj⟩ := List.getElem?_of_mem hy
   have hyo := body_rule ho hy ha
   have hh : hitH l (inK l 0) (0 == 0) y = true := hit_iff.2 ⟨a, ha, hn, by
    cases hru : ruledL l a.pred with
    | false => exact .inl ⟨rfl, rfl⟩
    | true => exact .inr (holds_all hru)⟩
   rcases hr with rfl | hw
   ·exact ⟨j, y, hj, hyo, rfl, higher_iff.2 ⟨j, y, hj, hh, .inl rfl⟩⟩
   ·obtain ⟨i, x, hi, hxp, hwe⟩ := way_preds ho hw j y hj hyo rfl
    refine ⟨i, x, hi, ?_, hxp, higher_iff.2 ⟨j, y, hj, hh, .inr hwe⟩⟩
    cases hwe with
    | one e => obtain ⟨x', _, hx', _, _, b, hb, _⟩ := edge_iff.1 e; rw [hi] at hx'; cases hx'; exact body_rule ho (List.mem_of_getElem? hi) hb
    | more e _ => obtain ⟨x', _, hx', _, _, b, hb, _⟩ := edge_iff.1 e; rw [hi] at hx'; cases hx'; exact body_rule ho (List.mem_of_getElem? hi) hb
 | succ k ih =>
  intro p
  rw [holds_iff]
  constructor
  ·rintro ⟨i, x, hx, h1, rfl, h3⟩
   obtain ⟨j, y, hy, hh, hw⟩ := higher_iff.1 h3
   obtain ⟨a, ha, hn, hc⟩ := hit_iff.1 hh
   have hc' : HH l (k + 1) a.pred := by
    rcases hc with ⟨hc, -⟩ | hc
    ·simp at hc
    ·exact (ih a.pred).1 hc
   refine ⟨y, List.mem_of_getElem? hy, ?_, a, ha, hn, hc'⟩
   rcases hw with rfl | hw
   ·rw [hx] at hy; cases hy; exact .inl rfl
   ·obtain ⟨x', y', hx', hy', -, hw⟩ := way_rules hw
    rw [hx] at hx'; cases hx'
    rw [hy] at hy'; cases hy'
    exact .inr hw
  ·rintro ⟨y, hy, hr, a, ha, hn, hk⟩
   obtain ⟨j, hj⟩ := List.getElem?_of_mem hy
   have hyo := body_rule ho hy ha
   have hh : hitH l (inK l (k + 1)) (k + 1 == 0) y = true := hit_iff.2 ⟨a, ha, hn, .inr ((ih a.pred).2 hk)⟩
   rcases hr with rfl | hw
   ·exact ⟨j, y, hj, hyo, rfl, higher_iff.2 ⟨j, y, hj, hh, .inl rfl⟩⟩
   ·obtain ⟨i, x, hi, hxp, hwe⟩ := way_preds ho hw j y hj hyo rfl
    refine ⟨i, x, hi, ?_, hxp, higher_iff.2 ⟨j, y, hj, hh, .inr hwe⟩⟩
    cases hwe with
    | one e => obtain ⟨x', _, hx', _, _, b, hb, _⟩ := edge_iff.1 e; rw [hi] at hx'; cases hx'; exact body_rule ho (List.mem_of_getElem? hi) hb
    | more e _ => obtain ⟨x', _, hx', _, _, b, hb, _⟩ := edge_iff.1 e; rw [hi] at hx'; cases hx'; exact body_rule ho (List.mem_of_getElem? hi) hb
def stratumL (l : List RItem) (p : Tx) : Nat := match (List.range 16).find? (fun k => !holdsL (inK l (k + 1)) l p) with | some k => k | none => 16
theorem stratum_iff {l : List RItem} (ho : ∀ x ∈ l, x.out = true → x.body = []) (hL : Loose l) (hl : l.length ≤ 16) (p : Tx) (k : Nat) : HH l k p ↔ k ≤ stratumL l p := by
 unfold stratumL
 split
 ·rename_i d hd
  rw [List.find?_range_eq_some] at hd
  obtain ⟨h1, h2, h3⟩ := hd
  have h4 : ¬ HH l (d + 1) p := by rw [← holds_HH ho]; simpa using h1
  constructor
  ·intro h
   rcases Nat.lt_or_ge d k with hlt | hge
   ·exact absurd (HH_le (m := d + 1) (k - (d + 1)) (by rw [show d + 1 + (k - (d + 1)) = k by omega]; exact h)) h4
   ·exact hge
  ·intro h
   cases k with
   | zero => trivial
   | succ k =>
    have := h3 k (by omega)
    rw [← holds_HH ho]
    simpa using this
 ·rename_i hd
  constructor
  ·intro h; have := HH_bound hL h; omega
  ·intro h
   cases k with
   | zero => trivial
   | succ k =>
    rw [List.find?_eq_none] at hd
    have := hd k (by simp; omega)
    rw [← holds_HH ho]
    simpa using this
/-! ### The program's rounds -/
theorem leastF_le {N : List Tx} {cc : Nat → Int} : ∀ (ls : List RAtom) (m : Int), m ≤ ls.foldl (leastF N cc) m ∧ (∀ a ∈ ls, askS N cc a ≤ ls.foldl (leastF N cc) m) ∧ (∀ k : Int, k ≤ ls.foldl (leastF N cc) m → k ≤ m ∨ ∃ a ∈ ls, k ≤ askS N cc a)
 | [], m => ⟨Int.le_refl _, (fun a h => by cases h), fun k h => .inl h⟩
 | b :: ls, m => by
  obtain ⟨h1, h2, h3⟩ := leastF_le (N := N) (cc := cc) ls (leastF N cc m b)
  have h4 : m ≤ leastF N cc m b ∧ askS N cc b ≤ leastF N cc m b ∧ (leastF N cc m b = m ∨ leastF N cc m b = askS N cc b) := by
   unfold leastF; split
   ·exact ⟨by omega, by omega, .inr rfl⟩
   ·exact ⟨by omega, by omega, .inl rfl⟩
  rw [List.foldl_cons]
  refine ⟨by omega, fun a ha => ?_, fun k hk => ?_⟩
  ·rcases List.mem_cons.1 ha with rfl | ha
   ·omega
   ·exact h2 a ha
  ·rcases h3 k hk with h | ⟨a, ha, h⟩
   ·rcases h4.2.2 with e | e
    ·exact .inl (by omega)
    ·exact .inr ⟨b, by simp, by omega⟩
   ·exact .inr ⟨a, by simp [ha], h⟩
theorem askS_mono {N : List Tx} {cc dd : Nat → Int} (h : ∀ j, cc j ≤ dd j) (a : RAtom) : askS N cc a ≤ askS N dd a := by
 have := h (N.idxOf a.pred)
 unfold askS; split <;> omega
theorem leastL_mono {N : List Tx} {cc dd : Nat → Int} (h : ∀ j, cc j ≤ dd j) (ls : List RAtom) : leastL N cc ls ≤ leastL N dd ls := by
 obtain ⟨h1, h2, h3⟩ := leastF_le (N := N) (cc := dd) ls 0
 obtain ⟨g1, g2, g3⟩ := leastF_le (N := N) (cc := cc) ls 0
 rcases g3 _ (Int.le_refl _) with g | ⟨a, ha, g⟩
 ·exact Int.le_trans g h1
 ·exact Int.le_trans g (Int.le_trans (askS_mono h a) (h2 a ha))
theorem stepC_ge {N : List Tx} (cc : Nat → Int) (x : RItem) (j : Nat) : cc j ≤ stepC N cc x j := by
 unfold stepC; split
 ·rename_i h; rw [h.1]; omega
 ·omega
theorem stepC_hd {N : List Tx} (cc : Nat → Int) (x : RItem) : leastL N cc x.body ≤ stepC N cc x (N.idxOf x.head.pred) := by
 unfold stepC
 by_cases h : cc (N.idxOf x.head.pred) < leastL N cc x.body
 ·rw [if_pos ⟨rfl, h⟩]; omega
 ·rw [if_neg (fun e => h e.2)]; omega
theorem round_ge {N : List Tx} : ∀ (l : List RItem) (cc : Nat → Int) (j : Nat), cc j ≤ l.foldl (stepC N) cc j
 | [], cc, j => Int.le_refl _
 | x :: l, cc, j => Int.le_trans (stepC_ge cc x j) (round_ge l _ j)
theorem round_hd {N : List Tx} : ∀ (l : List RItem) (cc dd : Nat → Int), (∀ j, cc j ≤ dd j) → ∀ x ∈ l, leastL N cc x.body ≤ l.foldl (stepC N) dd (N.idxOf x.head.pred)
 | y :: l, cc, dd, h, x, hx => by
  rw [List.foldl_cons]
  rcases List.mem_cons.1 hx with rfl | hx
  ·exact Int.le_trans (leastL_mono h _) (Int.le_trans (stepC_hd dd x) (round_ge l _ _))
  ·exact round_hd l cc _ (fun j => Int.le_trans (h j) (stepC_ge dd y j)) x hx
theorem iter_nonneg {N : List Tx} {l : List RItem} : ∀ (n : Nat) (j : Nat), 0 ≤ iterC N l n j
 | 0, j => Int.le_refl _
 | n + 1, j => Int.le_trans (iter_nonneg n j) (round_ge l _ j)
def Meet (N : List Tx) (l : List RItem) (cc : Nat → Int) : Prop := ∀ p ∈ N, ∀ k : Nat, (k : Int) ≤ cc (N.idxOf p) → HH l k p
theorem Meet.step {N : List Tx} {l : List RItem} (hN : ∀ x ∈ l, x.head.pred ∈ N ∧ ∀ a ∈ x.body, a.pred ∈ N) {cc : Nat → Int} (h : Meet N l cc) {x : RItem} (hx : x ∈ l) : Meet N l (stepC N cc x) := by
 intro p hp k hk
 unfold stepC at hk
 split at hk
 ·rename_i hc
  obtain rfl : p = x.head.pred := idx_inj hp (hN x hx).1 hc.1
  cases k with
  | zero => trivial
  | succ k =>
   rcases (leastF_le (N := N) (cc := cc) x.body 0).2.2 _ hk with h0 | ⟨a, ha, h0⟩
   ·omega
   ·have haN := (hN x hx).2 a ha
    unfold askS at h0
    cases hn : a.nt with
    | true =>
     rw [if_pos hn] at h0
     exact ⟨x, hx, .inl rfl, a, ha, hn, h a.pred haN k (by omega)⟩
    | false =>
     rw [if_neg (by rw [hn]; simp)] at h0
     exact HH_reach (.inr (.one ⟨x, hx, rfl, a, ha, rfl⟩)) (h a.pred haN (k + 1) h0)
 ·exact h p hp k hk
theorem Meet.round {N : List Tx} {l : List RItem} (hN : ∀ x ∈ l, x.head.pred ∈ N ∧ ∀ a ∈ x.body, a.pred ∈ N) : ∀ (m : List RItem) (cc : Nat → Int), (∀ x ∈ m, x ∈ l) → Meet N l cc → Meet N l (m.foldl (stepC N) cc)
 | [], cc, _, h => h
 | x :: m, cc, hs, h => Meet.round hN m _ (fun y hy => hs y (by simp [hy])) (h.step hN (hs x (by simp)))
theorem iter_meet {N : List Tx} {l : List RItem} (hN : ∀ x ∈ l, x.head.pred ∈ N ∧ ∀ a ∈ x.body, a.pred ∈ N) : ∀ n, Meet N l (iterC N l n)
 | 0 => fun p _ k hk => by
  have : k = 0 := by
   have hk' : (k : Int) ≤ 0 := hk
   omega
  subst this; trivial
 | n + 1 => Meet.round hN l _ (fun _ h => h) (iter_meet hN n)
theorem HH_head {l : List RItem} {k : Nat} {p : Tx} (h : HH l (k + 1) p) : ∃ x ∈ l, x.head.pred = p := by
 obtain ⟨x, hx, hr, -⟩ := h
 rcases hr with rfl | hw
 ·exact ⟨x, hx, rfl⟩
 ·cases hw with
  | one e => obtain ⟨y, hy, h1, -⟩ := e; exact ⟨y, hy, h1⟩
  | more e _ => obtain ⟨y, hy, h1, -⟩ := e; exact ⟨y, hy, h1⟩
theorem filter_less {α : Type} {P Q : α → Bool} : ∀ (l : List α), (∀ x ∈ l, Q x = true → P x = true) → (l.filter Q).length ≤ (l.filter P).length ∧ ((∃ x ∈ l, P x = true ∧ Q x = false) → (l.filter Q).length < (l.filter P).length)
 | [], _ => ⟨Nat.le_refl _, fun ⟨x, h, _⟩ => by cases h⟩
 | x :: l, h => by
  obtain ⟨h1, h2⟩ := filter_less l fun y hy => h y (by simp [hy])
  have hx := h x (by simp)
  simp only [List.filter_cons]
  cases hq : Q x with
  | true =>
   rw [hx hq]
   simp only [if_true, List.length_cons]
   refine ⟨by omega, fun ⟨y, hy, g1, g2⟩ => ?_⟩
   rcases List.mem_cons.1 hy with rfl | hy
   ·rw [hq] at g2; cases g2
   ·have := h2 ⟨y, hy, g1, g2⟩; omega
  | false =>
   cases hp : P x with
   | true => simp only [if_true, Bool.false_eq_true, if_false, List.length_cons]; exact ⟨by omega, fun _ => by omega⟩
   | false =>
    simp only [Bool.false_eq_true, if_false]
    refine ⟨h1, fun ⟨y, hy, g1, g2⟩ => ?_⟩
    rcases List.mem_cons.1 hy with rfl | hy
    ·rw [hp] at g1; cases g1
    ·exact h2 ⟨y, hy, g1, g2⟩
theorem least_of {α : Type} (f : α → Nat) : ∀ (l : List α), l ≠ [] → ∃ x ∈ l, ∀ y ∈ l, f x ≤ f y
 | [], h => absurd rfl h
 | [x], _ => ⟨x, by simp, by simp⟩
 | x :: y :: l, _ => by
  obtain ⟨z, hz, hm⟩ := least_of f (y :: l) (by simp)
  rcases Nat.le_total (f x) (f z) with h | h
  ·exact ⟨x, by simp, fun u hu => by
    rcases List.mem_cons.1 hu with rfl | hu
    ·exact Nat.le_refl _
    ·exact Nat.le_trans h (hm u hu)⟩
  ·exact ⟨z, by simp [List.mem_cons.1 hz], fun u hu => by
    rcases List.mem_cons.1 hu with rfl | hu
    ·exact h
    ·exact hm u hu⟩
section rounds
variable {N : List Tx} {l : List RItem} (D : Tx → Nat)
theorem one_more (hD : ∀ p k, HH l k p ↔ k ≤ D p) (n : Nat) (k : Nat) (z : RItem) (hz : z ∈ l) (a : RAtom) (ha : a ∈ z.body) (hn : a.nt = true) (hk : D z.head.pred = k + 1) (hta : (k : Int) ≤ iterC N l n (N.idxOf a.pred)) :
  ∀ p, Way (atOnce l) p z.head.pred → D p = k + 1 → iterC N l n (N.idxOf p) < D p → (∃ x ∈ l, x.head.pred = p) → ∃ y ∈ l, iterC N l n (N.idxOf y.head.pred) < D y.head.pred ∧ (D y.head.pred : Int) ≤ iterC N l (n + 1) (N.idxOf y.head.pred) := by
 have hzt : (D z.head.pred : Int) ≤ iterC N l (n + 1) (N.idxOf z.head.pred) := by
  have h1 := round_hd (N := N) l (iterC N l n) (iterC N l n) (fun j => Int.le_refl _) z hz
  have h2 := (leastF_le (N := N) (cc := iterC N l n) z.body 0).2.1 a ha
  have h3 : askS N (iterC N l n) a = iterC N l n (N.idxOf a.pred) + 1 := by unfold askS; rw [if_pos hn]
  have h4 : leastL N (iterC N l n) z.body ≤ iterC N l (n + 1) (N.idxOf z.head.pred) := h1
  unfold leastL at h4
  omega
 have up : ∀ u ∈ l, ∀ b ∈ u.body, iterC N l n (N.idxOf b.pred) ≤ iterC N l (n + 1) (N.idxOf u.head.pred) := by
  intro u hu b hb
  have h1 := round_hd (N := N) l (iterC N l n) (iterC N l n) (fun j => Int.le_refl _) u hu
  have h2 := (leastF_le (N := N) (cc := iterC N l n) u.body 0).2.1 b hb
  have h3 : iterC N l n (N.idxOf b.pred) ≤ askS N (iterC N l n) b := by unfold askS; split <;> omega
  have h4 : leastL N (iterC N l n) u.body ≤ iterC N l (n + 1) (N.idxOf u.head.pred) := h1
  unfold leastL at h4
  omega
 have down : ∀ p q, Rch l p q → D q ≤ D p := fun p q h => (hD p _).1 (HH_reach h ((hD q _).2 (Nat.le_refl _)))
 intro p hw
 generalize hzp : z.head.pred = zp at hw
 induction hw with
 | one e =>
  intro hp hlt _
  obtain ⟨u, hu, rfl, b, hb, rfl⟩ := e
  rcases Int.lt_or_le (iterC N l n (N.idxOf b.pred)) (D b.pred) with h | h
  ·exact ⟨z, hz, by rw [hzp]; exact h, hzt⟩
  ·refine ⟨u, hu, hlt, ?_⟩
   have := up u hu b hb
   rw [← hzp] at this h
   omega
 | more e hw ih =>
  rename_i p q r
  intro hp hlt _
  obtain ⟨u, hu, rfl, b, hb, rfl⟩ := e
  have hq : D b.pred = k + 1 := by
   have h1 := down u.head.pred b.pred (.inr (.one ⟨u, hu, rfl, b, hb, rfl⟩))
   have h2 := down b.pred r (.inr hw)
   rw [← hzp] at h2
   omega
  rcases Int.lt_or_le (iterC N l n (N.idxOf b.pred)) (D b.pred) with h | h
  ·refine ih hzp hq h ?_
   cases hw with
   | one e => obtain ⟨y, hy, h1, -⟩ := e; exact ⟨y, hy, h1⟩
   | more e _ => obtain ⟨y, hy, h1, -⟩ := e; exact ⟨y, hy, h1⟩
  ·refine ⟨u, hu, hlt, ?_⟩
   have := up u hu b hb
   omega
theorem rounds_left (hD : ∀ p k, HH l k p ↔ k ≤ D p) : ∀ n, (l.filter fun x => decide (iterC N l n (N.idxOf x.head.pred) < D x.head.pred)).length ≤ l.length - n
 | 0 => by simpa using List.length_filter_le _ l
 | n + 1 => by
  have ih := rounds_left hD n
  have hmono : ∀ x ∈ l, decide (iterC N l (n + 1) (N.idxOf x.head.pred) < D x.head.pred) = true → decide (iterC N l n (N.idxOf x.head.pred) < D x.head.pred) = true := by
   intro x _ h
   have := round_ge (N := N) l (iterC N l n) (N.idxOf x.head.pred)
   have h' : iterC N l (n + 1) (N.idxOf x.head.pred) < D x.head.pred := by simpa using h
   have h2 : iterC N l (n + 1) (N.idxOf x.head.pred) = l.foldl (stepC N) (iterC N l n) (N.idxOf x.head.pred) := rfl
   simp only [decide_eq_true_eq]
   omega
  obtain ⟨f1, f2⟩ := filter_less l hmono
  by_cases he : (l.filter fun x => decide (iterC N l n (N.idxOf x.head.pred) < D x.head.pred)) = []
  ·rw [he] at f1; simp only [List.length_nil] at f1; omega
  ·obtain ⟨x, hx, hm⟩ := least_of (fun x => D x.head.pred) _ he
   obtain ⟨hxl, hxd⟩ := List.mem_filter.1 hx
   have hxd' : iterC N l n (N.idxOf x.head.pred) < D x.head.pred := by simpa using hxd
   have h0 := iter_nonneg (N := N) (l := l) n (N.idxOf x.head.pred)
   obtain ⟨k, hk⟩ : ∃ k, D x.head.pred = k + 1 := ⟨D x.head.pred - 1, by omega⟩
   have hH := (hD x.head.pred (k + 1)).2 (by omega)
   obtain ⟨z, hz, hr, a, ha, hn, hh⟩ := hH
   have hz1 : D z.head.pred ≤ k + 1 := by
    rw [← hk]; exact (hD _ _).1 (HH_reach hr ((hD _ _).2 (Nat.le_refl _)))
   have hza : D a.pred + 1 ≤ D z.head.pred := (hD _ _).1 ⟨z, hz, .inl rfl, a, ha, hn, (hD _ _).2 (Nat.le_refl _)⟩
   have hka := (hD _ _).1 hh
   have hta : (k : Int) ≤ iterC N l n (N.idxOf a.pred) := by
    cases k with
    | zero => exact iter_nonneg n _
    | succ k =>
     obtain ⟨y, hy, hya⟩ := HH_head hh
     rcases Int.lt_or_le (iterC N l n (N.idxOf a.pred)) ((k + 1 : Nat) : Int) with h | h
     ·exfalso
      have := hm y (List.mem_filter.2 ⟨hy, by rw [hya]; simp only [decide_eq_true_eq]; omega⟩)
      have h2 : D x.head.pred ≤ D a.pred := by rw [← hya]; exact this
      omega
     ·exact h
   have hex : ∃ y ∈ l, iterC N l n (N.idxOf y.head.pred) < D y.head.pred ∧ (D y.head.pred : Int) ≤ iterC N l (n + 1) (N.idxOf y.head.pred) := by
    rcases hr with hr | hw
    ·refine ⟨x, hxl, hxd', ?_⟩
     have h1 := round_hd (N := N) l (iterC N l n) (iterC N l n) (fun j => Int.le_refl _) z hz
     have h2 := (leastF_le (N := N) (cc := iterC N l n) z.body 0).2.1 a ha
     have h3 : askS N (iterC N l n) a = iterC N l n (N.idxOf a.pred) + 1 := by unfold askS; rw [if_pos hn]
     have h4 : leastL N (iterC N l n) z.body ≤ iterC N l (n + 1) (N.idxOf z.head.pred) := h1
     unfold leastL at h4
     rw [hr] at hk ⊢
     omega
    ·exact one_more D hD n k z hz a ha hn (by omega) hta _ hw hk hxd' ⟨x, hxl, rfl⟩
   obtain ⟨y, hy, hy1, hy2⟩ := hex
   have := f2 ⟨y, hy, by simpa using hy1, by simp only [decide_eq_false_iff_not]; omega⟩
   omega
theorem rounds_done (hN : ∀ x ∈ l, x.head.pred ∈ N ∧ ∀ a ∈ x.body, a.pred ∈ N) (hD : ∀ p k, HH l k p ↔ k ≤ D p) {p : Tx} (hp : p ∈ N) : iterC N l l.length (N.idxOf p) = D p := by
 have h0 := iter_nonneg (N := N) (l := l) l.length (N.idxOf p)
 have h1 := (hD p _).1 (iter_meet hN l.length p hp (iterC N l l.length (N.idxOf p)).toNat (by omega))
 rcases Nat.eq_zero_or_pos (D p) with hz | hz
 ·omega
 ·obtain ⟨k, hk⟩ : ∃ k, D p = k + 1 := ⟨D p - 1, by omega⟩
  obtain ⟨x, hx, rfl⟩ := HH_head ((hD p (k + 1)).2 (by omega))
  have h2 := rounds_left (N := N) D hD l.length
  have h3 : (l.filter fun x => decide (iterC N l l.length (N.idxOf x.head.pred) < D x.head.pred)) = [] := List.eq_nil_of_length_eq_zero (by omega)
  rw [List.filter_eq_nil_iff] at h3
  have := h3 x hx
  simp only [decide_eq_true_eq] at this
  omega
end rounds
theorem loose_of {l : List RItem} (ho : ∀ x ∈ l, x.out = true → x.body = []) (h : ∀ i, i < l.length → knotP l i = false) : Loose l := by
 intro x hx a ha hn hr
 obtain ⟨i, hi⟩ := List.getElem?_of_mem hx
 have hk := h i (List.getElem?_eq_some_iff.1 hi).1
 unfold knotP at hk
 rw [hi] at hk
 have := List.any_eq_false.1 hk a ha
 apply this
 unfold badK
 rw [hn]
 simp only [Bool.true_and, Bool.or_eq_true, beq_iff_eq]
 rcases hr with hr | hr
 ·exact .inl hr
 ·exact .inr ((usesB_iff ho ⟨x, hx, body_rule ho hx ha, rfl⟩).2 hr)
theorem strata_eq {N : List Tx} {l : List RItem} (hl : l.length ≤ 16) (ho : ∀ x ∈ l, x.out = true → x.body = []) (hN : ∀ x ∈ l, x.head.pred ∈ N ∧ ∀ a ∈ x.body, a.pred ∈ N) (h : ∀ i, i < l.length → knotP l i = false) {p : Tx} (hp : p ∈ N) : iterC N l l.length (N.idxOf p) = stratumL l p :=
 rounds_done (stratumL l) hN (fun q k => stratum_iff ho (loose_of ho h) hl q k) hp
end Go.Proofs.YtmoeoppbmhfbpaaGreatDoorB
