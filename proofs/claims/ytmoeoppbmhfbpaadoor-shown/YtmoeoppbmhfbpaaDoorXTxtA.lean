import Derived.Test.YtmoeoppbmhfbpaaDoorXPrtP
/- A program's text, cut and read as a plain text: pieces, atoms, terms; the text of a well made program. -/
namespace Go.Proofs.YtmoeoppbmhfbpaaDoorX
open Go.Abs
set_option linter.unusedSimpArgs false
set_option linter.unusedVariables false

def Wd (b : UInt8) : Prop := smallB b.toNat = true ∨ largeB b.toNat = true ∨ digitB b.toNat = true
theorem wd_ne {b : UInt8} (h : Wd b) : b ∉ [33, 40, 41, 44, 45, 46, 58, 63] := fun hm => by
  simp only [List.mem_cons, List.not_mem_nil, or_false] at hm
  rcases hm with rfl | rfl | rfl | rfl | rfl | rfl | rfl | rfl <;> revert h <;> unfold Wd <;> decide
theorem small_ne {b : UInt8} (h : smallB b.toNat = true) : b ∉ [33, 40, 41, 44, 45, 46, 58, 63] := wd_ne (.inl h)
theorem term_wd {t : Tx} (h : WTerm t) {b : UInt8} (hb : b ∈ t) : Wd b := .inr (h.2 b hb)
theorem name_wd {t : Tx} (h : WName t) {b : UInt8} (hb : b ∈ t) : Wd b := .inl (h.2 b hb)
def Free (l : List UInt8) (t : Tx) : Prop := ∀ b ∈ t, b ∉ l
theorem Free.of {t : Tx} (h : ∀ b ∈ t, Wd b) : Free [33, 40, 41, 44, 45, 46, 58, 63] t := fun b hb => wd_ne (h b hb)
theorem Free.not {l : List UInt8} {t : Tx} (h : Free l t) {c : UInt8} (hc : c ∈ l) : c ∉ t := fun hm => h c hm hc
theorem WTerm.free {t : Tx} (h : WTerm t) : Free [33, 40, 41, 44, 45, 46, 58, 63] t := Free.of fun b hb => term_wd h hb
theorem WName.free {t : Tx} (h : WName t) : Free [33, 40, 41, 44, 45, 46, 58, 63] t := Free.of fun b hb => name_wd h hb
theorem uMore_byte {ts : List Tx} {b : UInt8} (h : b ∈ uMore ts) : b = 44 ∨ ∃ t ∈ ts, b ∈ t := by
  unfold uMore at h
  obtain ⟨t, ht, hb⟩ := List.mem_flatMap.1 h
  rcases List.mem_cons.1 hb with rfl | hb
  · exact .inl rfl
  · exact .inr ⟨t, ht, hb⟩
theorem uList_byte {ts : List Tx} {b : UInt8} (h : b ∈ uList ts) : b = 44 ∨ ∃ t ∈ ts, b ∈ t := by
  cases ts with
  | nil => cases h
  | cons t ts =>
    rcases List.mem_append.1 h with h | h
    · exact .inr ⟨t, by simp, h⟩
    · rcases uMore_byte h with h | ⟨u, hu, hb⟩
      · exact .inl h
      · exact .inr ⟨u, by simp [hu], hb⟩
theorem uList_of {ts : List Tx} {t : Tx} {b : UInt8} (ht : t ∈ ts) (hb : b ∈ t) : b ∈ uList ts := by
  cases ts with
  | nil => cases ht
  | cons u ts =>
    rcases List.mem_cons.1 ht with rfl | ht
    · exact List.mem_append_left _ hb
    · exact List.mem_append_right _ (List.mem_flatMap.2 ⟨t, ht, by simp [hb]⟩)
theorem uAtom_mem {a : RAtom} (h : WAtom a) {b : UInt8} (hb : b ∈ uAtom a) : Wd b ∨ b = 40 ∨ b = 41 ∨ b = 44 := by
  unfold uAtom at hb
  rcases List.mem_append.1 hb with hb | hb
  · exact .inl (name_wd h.1 hb)
  · rcases List.mem_cons.1 hb with rfl | hb
    · exact .inr (.inl rfl)
    · rcases List.mem_append.1 hb with hb | hb
      · rcases uList_byte hb with rfl | ⟨t, ht, hb⟩
        · exact .inr (.inr (.inr rfl))
        · exact .inl (term_wd (h.2.2.2 t ht) hb)
      · simp at hb; exact .inr (.inr (.inl hb))
theorem uLit_mem {a : RAtom} (h : WAtom a) {b : UInt8} (hb : b ∈ uLit a) : Wd b ∨ b = 33 ∨ b = 40 ∨ b = 41 ∨ b = 44 := by
  unfold uLit at hb
  rcases List.mem_append.1 hb with hb | hb
  · split at hb
    · simp at hb; exact .inr (.inl hb)
    · cases hb
  · rcases uAtom_mem h hb with h | h
    · exact .inl h
    · exact .inr (.inr h)
theorem uItem_mem {x : RItem} (h : WItem x) {b : UInt8} (hb : b ∈ uItem x) : Wd b ∨ b ∈ [33, 40, 41, 44, 45, 58, 63] := by
  unfold uItem at hb
  split at hb
  · rcases List.mem_cons.1 hb with rfl | hb
    · exact .inr (by decide)
    · exact .inl (name_wd h.1 hb)
  · rename_i ho
    obtain ⟨h1, h2, h3, h4⟩ := h.2.2 (by simpa using ho)
    unfold uRule at hb
    rcases List.mem_append.1 hb with hb | hb
    · rcases uAtom_mem h1 hb with h | rfl | rfl | rfl
      · exact .inl h
      all_goals exact .inr (by decide)
    · split at hb
      · cases hb
      · rcases List.mem_cons.1 hb with rfl | hb
        · exact .inr (by decide)
        · rcases List.mem_cons.1 hb with rfl | hb
          · exact .inr (by decide)
          · rcases uList_byte hb with rfl | ⟨t, ht, hb⟩
            · exact .inr (by decide)
            · obtain ⟨a, ha, rfl⟩ := List.mem_map.1 ht
              rcases uLit_mem (h4 a ha) hb with h | rfl | rfl | rfl | rfl
              · exact .inl h
              all_goals exact .inr (by decide)
theorem uItem_dot {x : RItem} (h : WItem x) : 46 ∉ uItem x := fun hb => by
  rcases uItem_mem h hb with h | h
  · exact wd_ne h (by decide)
  · revert h; decide

/-! ### Pieces -/
def pcF (x : List Tx × Tx) (c : UInt8) : List Tx × Tx := if c = 46 then (x.1 ++ [x.2 ++ [c]], []) else (x.1, x.2 ++ [c])
def pcsL (t : Tx) : List Tx := if (t.foldl pcF ([], [])).2 = [] then (t.foldl pcF ([], [])).1 else (t.foldl pcF ([], [])).1 ++ [(t.foldl pcF ([], [])).2]
theorem pc_run : ∀ (t : Tx) (d : List Tx) (u : Tx), 46 ∉ t → t.foldl pcF (d, u) = (d, u ++ t)
  | [], d, u, _ => by simp
  | c :: t, d, u, h => by
    have hc : c ≠ 46 := fun e => h (by simp [e])
    have ht : 46 ∉ t := fun e => h (by simp [e])
    rw [List.foldl_cons, pcF, if_neg hc, pc_run t _ _ ht]
    simp
theorem pc_items : ∀ (l : List RItem) (d : List Tx), (∀ x ∈ l, 46 ∉ uItem x) → (uItems l).foldl pcF (d, []) = (d ++ l.map (fun x => uItem x ++ [46]), [])
  | [], d, _ => by simp [uItems]
  | x :: l, d, h => by
    have h1 := h x (by simp)
    have e : uItems (x :: l) = uItem x ++ 46 :: uItems l := by simp [uItems]
    rw [e, List.foldl_append, pc_run _ _ _ h1, List.foldl_cons]
    have e2 : pcF (d, [] ++ uItem x) 46 = (d ++ [uItem x ++ [46]], []) := by simp [pcF]
    rw [e2, pc_items l _ fun y hy => h y (by simp [hy])]
    simp
theorem pcs_items {l : List RItem} (h : ∀ x ∈ l, WItem x) : pcsL (uItems l) = l.map fun x => uItem x ++ [46] := by
  unfold pcsL
  rw [pc_items l [] fun x hx => uItem_dot (h x hx)]
  simp

/-! ### The terms of an atom -/
def tmF (x : List Tx × Tx) (c : UInt8) : List Tx × Tx := if c = 44 ∨ c = 41 then (x.1 ++ [x.2], []) else (x.1, x.2 ++ [c])
def inP (t : Tx) : Tx := (t.dropWhile (· != 40)).drop 1
def tmsL (t : Tx) : List Tx := ((inP t).foldl tmF ([], [])).1
theorem tm_run : ∀ (t : Tx) (d : List Tx) (u : Tx), 44 ∉ t → 41 ∉ t → t.foldl tmF (d, u) = (d, u ++ t)
  | [], d, u, _, _ => by simp
  | c :: t, d, u, h, g => by
    have hc : ¬ (c = 44 ∨ c = 41) := fun e => by rcases e with rfl | rfl; exact h (by simp); exact g (by simp)
    have ht : 44 ∉ t := fun e => h (by simp [e])
    have gt : 41 ∉ t := fun e => g (by simp [e])
    rw [List.foldl_cons, tmF, if_neg hc, tm_run t _ _ ht gt]
    simp
theorem tm_more : ∀ (ts : List Tx) (d : List Tx) (u : Tx), (∀ t ∈ ts, 44 ∉ t ∧ 41 ∉ t) → (uMore ts ++ [41]).foldl tmF (d, u) = (d ++ u :: ts, [])
  | [], d, u, _ => by simp [uMore, tmF]
  | t :: ts, d, u, h => by
    obtain ⟨h1, h2⟩ := h t (by simp)
    have e : uMore (t :: ts) ++ [41] = 44 :: (t ++ (uMore ts ++ [41])) := by simp [uMore]
    have e2 : tmF (d, u) 44 = (d ++ [u], []) := by simp [tmF]
    rw [e, List.foldl_cons, e2, List.foldl_append, tm_run _ _ _ h1 h2, tm_more ts _ _ fun v hv => h v (by simp [hv])]
    simp
theorem dropw : ∀ (p r : Tx), 40 ∉ p → (p ++ 40 :: r).dropWhile (· != 40) = 40 :: r
  | [], r, _ => by simp
  | c :: p, r, h => by
    have hc : c ≠ 40 := fun e => h (by simp [e])
    have hp : 40 ∉ p := fun e => h (by simp [e])
    rw [List.cons_append, List.dropWhile_cons_of_pos (by simpa using hc)]
    exact dropw p r hp
theorem tms_list {p : Tx} {ts : List Tx} (hp : 40 ∉ p) (h : ts ≠ []) (hs : ∀ t ∈ ts, 44 ∉ t ∧ 41 ∉ t) : tmsL (p ++ 40 :: (uList ts ++ [41])) = ts := by
  unfold tmsL inP
  rw [dropw p _ hp, List.drop_one, List.tail_cons]
  cases ts with
  | nil => exact absurd rfl h
  | cons t ts =>
    obtain ⟨h1, h2⟩ := hs t (by simp)
    rw [uList, List.append_assoc, List.foldl_append, tm_run _ _ _ h1 h2, tm_more _ _ _ fun v hv => hs v (by simp [hv])]
    simp
theorem tms_lit {a : RAtom} (h : WAtom a) : tmsL (uLit a) = a.terms := by
  have e : uLit a = ((if a.nt = true then [33] else []) ++ a.pred) ++ 40 :: (uList a.terms ++ [41]) := by simp [uLit, uAtom]
  rw [e]
  refine tms_list (fun hm => ?_) h.2.1 fun t ht => ⟨(h.2.2.2 t ht).free.not (by decide), (h.2.2.2 t ht).free.not (by decide)⟩
  rcases List.mem_append.1 hm with hm | hm
  · split at hm
    · revert hm; decide
    · cases hm
  · exact h.1.free.not (by decide) hm

/-! ### The atoms of a rule -/
def atF (x : List Tx × Tx) (c : UInt8) : List Tx × Tx := if c = 41 then (x.1 ++ [x.2 ++ [c]], []) else if (c = 45 ∨ c = 44) ∧ x.2.count 40 = 0 then (x.1, []) else (x.1, x.2 ++ [c])
def atsL (t : Tx) : List Tx := (t.foldl atF ([], [])).1
theorem at_run : ∀ (t : Tx) (d : List Tx) (u : Tx), Free [41, 44, 45] t → t.foldl atF (d, u) = (d, u ++ t)
  | [], d, u, _ => by simp
  | c :: t, d, u, h => by
    have hc := h c (by simp)
    simp only [List.mem_cons, List.not_mem_nil, or_false, not_or] at hc
    rw [List.foldl_cons, atF, if_neg hc.1, if_neg (by rintro ⟨e | e, -⟩ <;> simp [e] at hc), at_run t _ _ fun b hb => h b (by simp [hb])]
    simp
theorem at_in : ∀ (t : Tx) (d : List Tx) (u : Tx), 41 ∉ t → 0 < u.count 40 → t.foldl atF (d, u) = (d, u ++ t)
  | [], d, u, _, _ => by simp
  | c :: t, d, u, h, hu => by
    have hc : c ≠ 41 := fun e => h (by simp [e])
    have ht : 41 ∉ t := fun e => h (by simp [e])
    rw [List.foldl_cons, atF, if_neg hc, if_neg (by rintro ⟨-, e⟩; simp only at e; omega), at_in t _ _ ht (by show 0 < List.count 40 (u ++ [c]); rw [List.count_append]; omega)]
    simp
theorem free3 {t : Tx} (h : Free [33, 40, 41, 44, 45, 46, 58, 63] t) : Free [41, 44, 45] t := fun b hb hm => h b hb (by
  simp only [List.mem_cons, List.not_mem_nil, or_false] at hm
  rcases hm with rfl | rfl | rfl <;> decide)
theorem at_lit {a : RAtom} (h : WAtom a) (d : List Tx) : (uLit a).foldl atF (d, []) = (d ++ [uLit a], []) := by
  have e : uLit a = (if a.nt = true then [33] else []) ++ (a.pred ++ ([40] ++ (uList a.terms ++ [41]))) := by simp [uLit, uAtom]
  have f1 : Free [41, 44, 45] (if a.nt = true then [33] else []) := by
    intro b hb
    split at hb
    · simp at hb; subst hb; decide
    · cases hb
  have f2 : Free [41, 44, 45] ([40] : Tx) := by intro b hb; simp at hb; subst hb; decide
  have f3 : 41 ∉ uList a.terms := fun hm => by
    rcases uList_byte hm with h' | ⟨t, ht, hb⟩
    · revert h'; decide
    · exact (h.2.2.2 t ht).free.not (by decide) hb
  rw [e, List.foldl_append, at_run (if a.nt = true then [33] else []) _ _ f1, List.foldl_append, at_run a.pred _ _ (free3 h.1.free), List.foldl_append, at_run [40] _ _ f2, List.foldl_append, at_in (uList a.terms) _ _ f3 (by rw [List.count_append]; simp)]
  simp [atF]
theorem at_more : ∀ (ls : List RAtom) (d : List Tx), (∀ a ∈ ls, WAtom a) → (uMore (ls.map uLit)).foldl atF (d, []) = (d ++ ls.map uLit, [])
  | [], d, _ => by simp [uMore]
  | a :: ls, d, h => by
    have e : uMore ((a :: ls).map uLit) = 44 :: (uLit a ++ uMore (ls.map uLit)) := by simp [uMore]
    have e2 : atF (d, []) 44 = (d, []) := by simp [atF]
    rw [e, List.foldl_cons, e2, List.foldl_append, at_lit (h a (by simp)), at_more ls _ fun b hb => h b (by simp [hb])]
    simp
theorem ats_rule {x : RItem} (h : WItem x) (ho : x.out = false) : atsL (uItem x ++ [46]) = uLit x.head :: x.body.map uLit := by
  obtain ⟨h1, h2, h3, h4⟩ := h.2.2 ho
  have e0 : uAtom x.head = uLit x.head := by simp [uLit, h2]
  unfold atsL uItem
  rw [if_neg (by simp [ho]), uRule, e0, List.append_assoc, List.foldl_append, at_lit h1]
  split
  · rename_i hb
    rw [hb]
    simp [atF]
  · rename_i hb
    obtain ⟨l, ls, e⟩ := List.exists_cons_of_ne_nil hb
    rw [e, List.map_cons, uList]
    have e2 : (58 :: 45 :: (uLit l ++ uMore (ls.map uLit)) ++ [46] : Tx) = [58, 45] ++ (uLit l ++ (uMore (ls.map uLit) ++ [46])) := by simp
    have e3 : ([58, 45] : Tx).foldl atF ([] ++ [uLit x.head], []) = ([uLit x.head], []) := by simp [atF]
    rw [e] at h4
    rw [e2, List.foldl_append, e3, List.foldl_append, at_lit (h4 l (by simp)), List.foldl_append, at_more _ _ fun a ha => h4 a (by simp [ha])]
    simp [atF]

/-! ### The number of variables, and what is put for them -/
def vrF (n : Nat) (c : UInt8) : Nat := if largeB c.toNat = true ∧ n ≤ c.toNat - 65 then c.toNat - 65 + 1 else n
def vrsL (t : Tx) : Nat := t.foldl vrF 0
theorem vr_le : ∀ (t : Tx) (n k : Nat), n ≤ k → (∀ c ∈ t, largeB c.toNat = true → c.toNat - 65 < k) → t.foldl vrF n ≤ k
  | [], n, k, h, _ => h
  | c :: t, n, k, h, g => by
    rw [List.foldl_cons]
    refine vr_le t _ _ ?_ fun b hb => g b (by simp [hb])
    unfold vrF
    split
    · rename_i hc; have := g c (by simp) hc.1; omega
    · exact h
theorem vr_mono : ∀ (t : Tx) (n : Nat), n ≤ t.foldl vrF n
  | [], n => Nat.le_refl _
  | c :: t, n => by
    rw [List.foldl_cons]
    refine Nat.le_trans ?_ (vr_mono t _)
    unfold vrF
    split <;> omega
theorem vr_ge : ∀ (t : Tx) (n : Nat) (c : UInt8), c ∈ t → largeB c.toNat = true → c.toNat - 65 + 1 ≤ t.foldl vrF n
  | [], n, c, h, _ => by cases h
  | b :: t, n, c, h, g => by
    rw [List.foldl_cons]
    rcases List.mem_cons.1 h with rfl | h
    · refine Nat.le_trans ?_ (vr_mono t _)
      unfold vrF
      split
      · exact Nat.le_refl _
      · rename_i hc
        have : ¬ n ≤ c.toNat - 65 := fun e => hc ⟨g, e⟩
        omega
    · exact vr_ge t _ c h g
theorem vrs_eq {t : Tx} {k : Nat} (h1 : ∀ c ∈ t, largeB c.toNat = true → c.toNat - 65 < k) (h2 : k = 0 ∨ ∃ c ∈ t, largeB c.toNat = true ∧ c.toNat - 65 + 1 = k) : vrsL t = k := by
  have a := vr_le t 0 k (Nat.zero_le _) h1
  rcases h2 with rfl | ⟨c, hc, hl, e⟩
  · exact Nat.le_zero.1 a
  · have b := vr_ge t 0 c hc hl
    unfold vrsL
    omega
def rpF (put : List Tx) (c : UInt8) : Tx := if largeB c.toNat = true ∧ c.toNat - 65 < put.length then (put[c.toNat - 65]?).getD [] else [c]
def rpL (put : List Tx) (t : Tx) : Tx := t.flatMap (rpF put)
theorem rpF_other {put : List Tx} {c : UInt8} (h : largeB c.toNat = false) : rpF put c = [c] := if_neg (by simp [h])
theorem rp_other : ∀ {put : List Tx} {t : Tx}, (∀ c ∈ t, largeB c.toNat = false) → rpL put t = t
  | put, [], _ => rfl
  | put, c :: t, h => by
    have := rp_other (put := put) (t := t) fun b hb => h b (by simp [hb])
    unfold rpL at this ⊢
    rw [List.flatMap_cons, rpF_other (h c (by simp)), this]
    rfl
theorem rp_append (put : List Tx) (t u : Tx) : rpL put (t ++ u) = rpL put t ++ rpL put u := List.flatMap_append
theorem rp_more (put : List Tx) : ∀ ts : List Tx, rpL put (uMore ts) = uMore (ts.map (rpL put))
  | [] => rfl
  | t :: ts => by
    have e : uMore (t :: ts) = [44] ++ (t ++ uMore ts) := by simp [uMore]
    rw [e, rp_append, rp_append, rp_more put ts, rp_other (t := [44]) (by intro c hc; simp at hc; subst hc; decide)]
    simp [uMore]
theorem rp_list (put : List Tx) (ts : List Tx) : rpL put (uList ts) = uList (ts.map (rpL put)) := by
  cases ts with
  | nil => rfl
  | cons t ts => rw [uList, rp_append, rp_more, List.map_cons, uList]
theorem small_large {c : UInt8} (h : smallB c.toNat = true) : largeB c.toNat = false := by
  simp only [smallB, largeB, Bool.and_eq_true, decide_eq_true_eq, Bool.and_eq_false_iff, decide_eq_false_iff_not] at h ⊢
  omega
theorem rp_lit {put : List Tx} {a : RAtom} (h : WName a.pred) : rpL put (uLit a) = uLit { a with terms := a.terms.map (rpL put) } := by
  have e : ∀ a : RAtom, uLit a = (if a.nt = true then [33] else []) ++ (a.pred ++ ([40] ++ (uList a.terms ++ [41]))) := fun a => by simp [uLit, uAtom]
  rw [e a, e { a with terms := a.terms.map (rpL put) }, rp_append, rp_append, rp_append, rp_append, rp_list, rp_other (t := a.pred) fun c hc => small_large (h.2 c hc),
    rp_other (t := [40]) (by intro c hc; simp at hc; subst hc; decide), rp_other (t := [41]) (by intro c hc; simp at hc; subst hc; decide), rp_other (t := if a.nt = true then [33] else []) (by intro c hc; split at hc; simp at hc; subst hc; decide; cases hc)]
theorem uLit_inj {a b : RAtom} (h : a.nt = b.nt) (g : a.pred = b.pred) (k : a.terms = b.terms) : uLit a = uLit b := by
  cases a; cases b; cases h; cases g; cases k; rfl
end Go.Proofs.YtmoeoppbmhfbpaaDoorX
