import Derived.Test.YtmoeoppbmhfbpaaDoorXLawA
/- The document's own answer: Print. -/
namespace Go.Proofs.YtmoeoppbmhfbpaaDoorX
open Go.Abs
set_option linter.unusedSimpArgs false
set_option linter.unusedVariables false
set_option maxRecDepth 100000

def whichL (l : List Tx) (s : Tx) : Int := if s ∈ l then ((l.idxOf s : Nat) : Int) else -1
def ordF (acc : List Tx) (t : Tx) : List Tx := if variableB t = true ∧ t ∉ acc then acc ++ [t] else acc
def ordT (acc : List Tx) (ts : List Tx) : List Tx := ts.foldl ordF acc
def ordL (x : RItem) : List Tx := ordT [] ((atomsL x).flatMap (·.terms))
theorem ordT_len (ts : List Tx) : ∀ acc, (ordT acc ts).length ≤ acc.length + ts.length := by
  induction ts with
  | nil => intro acc; simp [ordT]
  | cons t ts ih =>
    intro acc
    have := ih (ordF acc t)
    have h2 : (ordF acc t).length ≤ acc.length + 1 := by unfold ordF; split <;> simp
    simp only [ordT, List.foldl_cons, List.length_cons] at *
    omega
theorem ordT_snoc (acc ts : List Tx) (t : Tx) : ordT acc (ts ++ [t]) = ordF (ordT acc ts) t := by simp [ordT]
/-! ### Written -/
def letB (k : Int) : UInt8 := UInt8.ofNat (IntKind.u8.wrap (IntKind.i64.wrap (65 + Int.tmod k 26))).toNat
def wrT (l : List Tx) (t : Tx) : Tx := if variableB t = true then [letB (whichL l t)] else t
def wrS (k : Nat) : Tx := if k = 0 then [40] else [44]
def wrTs (l : List Tx) : Nat → List Tx → Tx
  | _, [] => []
  | k, t :: ts => wrS k ++ wrT l t ++ wrTs l (k + 1) ts
theorem wrTs_snoc (l : List Tx) : ∀ (ts : List Tx) (k : Nat) (t : Tx), wrTs l k (ts ++ [t]) = wrTs l k ts ++ (wrS (k + ts.length) ++ wrT l t)
  | [], k, t => by simp [wrTs]
  | u :: ts, k, t => by
    rw [List.cons_append, wrTs, wrTs_snoc l ts (k + 1) t, wrTs]
    simp only [List.append_assoc, List.length_cons]
    rw [show k + 1 + ts.length = k + (ts.length + 1) by omega]
def writeL (l : List Tx) (a : RAtom) : Tx := (if a.nt = true then [33] else []) ++ a.pred ++ wrTs l 0 a.terms ++ [41]
def short (a : RAtom) : Prop := a.pred.length ≤ 1000 ∧ a.terms.length ≤ 1000 ∧ ∀ t ∈ a.terms, t.length ≤ 1000
theorem wrT_len (l : List Tx) (t : Tx) (h : t.length ≤ 1000) : (wrT l t).length ≤ 1000 := by unfold wrT; split <;> simp [h]
theorem wrTs_len (l : List Tx) : ∀ (ts : List Tx) (k : Nat), (∀ t ∈ ts, t.length ≤ 1000) → (wrTs l k ts).length ≤ ts.length * 1001
  | [], k, h => by simp [wrTs]
  | t :: ts, k, h => by
    have h1 := wrT_len l t (h t (by simp))
    have h2 := wrTs_len l ts (k + 1) fun u hu => h u (by simp [hu])
    have h3 : (wrS k).length = 1 := by unfold wrS; split <;> rfl
    simp only [wrTs, List.length_append, List.length_cons]
    omega
/- The document's own answer: Print, whole. -/

def wrB (j : Nat) : Tx := if j = 0 then [58, 45] else [44]
def wrBs (l : List Tx) : Nat → List RAtom → Tx
  | _, [] => []
  | j, a :: ls => wrB j ++ writeL l a ++ wrBs l (j + 1) ls
theorem wrBs_snoc (l : List Tx) : ∀ (ls : List RAtom) (j : Nat) (a : RAtom), wrBs l j (ls ++ [a]) = wrBs l j ls ++ (wrB (j + ls.length) ++ writeL l a)
  | [], j, a => by simp [wrBs]
  | b :: ls, j, a => by
    rw [List.cons_append, wrBs, wrBs_snoc l ls (j + 1) a, wrBs]
    simp only [List.append_assoc, List.length_cons]
    rw [show j + 1 + ls.length = j + (ls.length + 1) by omega]
theorem writeL_len {l : List Tx} {a : RAtom} (h : short a) : (writeL l a).length ≤ 1002003 := by
  obtain ⟨h1, h2, h3⟩ := h
  have h4 := wrTs_len l a.terms 0 h3
  have h5 : (if a.nt = true then ([33] : Tx) else []).length ≤ 1 := by split <;> simp
  simp only [writeL, List.length_append, List.length_singleton]
  omega
theorem wrB_len (j : Nat) : (wrB j).length ≤ 2 := by unfold wrB; split <;> simp
def writtenL (x : RItem) : Tx := if x.out = true then 63 :: x.head.pred ++ [46] else writeL (ordL x) x.head ++ wrBs (ordL x) 0 x.body ++ [46]
def RItem.short (x : RItem) : Prop := Go.Proofs.YtmoeoppbmhfbpaaDoorX.short x.head ∧ ∀ a ∈ x.body, Go.Proofs.YtmoeoppbmhfbpaaDoorX.short a
theorem atoms_terms {x : RItem} (hx : x.fits) : ((atomsL x).flatMap (·.terms)).length ≤ 1001 * 1000 := by
  have h1 := hx.atoms
  have hat : ∀ a ∈ atomsL x, a.terms.length ≤ 1000 := by
    intro a ha
    unfold atomsL at ha
    rcases List.mem_append.1 ha with h | h
    · split at h
      · cases h
      · simp at h; subst h; exact hx.2.1
    · exact hx.2.2 a h
  generalize atomsL x = ls at h1 hat
  have : (ls.flatMap (·.terms)).length ≤ ls.length * 1000 := by
    clear h1
    induction ls with
    | nil => simp
    | cons a ls ih =>
      have h2 := ih fun b hb => hat b (by simp [hb])
      have h3 := hat a (by simp)
      simp only [List.flatMap_cons, List.length_append, List.length_cons]
      omega
  omega
theorem ordL_len {x : RItem} (hx : x.fits) : (ordL x).length ≤ 10000000 := by
  have h1 := ordT_len ((atomsL x).flatMap (·.terms)) []
  have h2 := atoms_terms hx
  unfold ordL
  rw [List.length_nil, Nat.zero_add] at h1
  omega

def wholeL (l : List RItem) : Tx := l.flatMap writtenL
theorem wrBs_len {l : List Tx} : ∀ (ls : List RAtom) (j : Nat), (∀ a ∈ ls, short a) → (wrBs l j ls).length ≤ ls.length * 1002010
  | [], j, h => by simp [wrBs]
  | a :: ls, j, h => by
    have h1 := writeL_len (l := l) (h a (by simp))
    have h2 := wrBs_len (l := l) ls (j + 1) fun b hb => h b (by simp [hb])
    have h3 := wrB_len j
    simp only [wrBs, List.length_append, List.length_cons]
    omega
theorem writtenL_len {x : RItem} (hx : x.fits) (hs : x.short) : (writtenL x).length ≤ 1100000000 := by
  have h1 := writeL_len (l := ordL x) hs.1
  have h2 := wrBs_len (l := ordL x) x.body 0 hs.2
  have h3 := hx.1
  have h4 := hs.1.1
  unfold writtenL
  split
  · simp; omega
  · simp only [List.length_append, List.length_singleton]; omega
/- The document's Print of a text. -/

theorem uMore_mem {ts : List Tx} {t : Tx} (h : t ∈ ts) : t.length ≤ (uMore ts).length := by
  induction ts with
  | nil => cases h
  | cons u ts ih =>
    unfold uMore at *
    simp only [List.flatMap_cons, List.length_append, List.length_cons]
    rcases List.mem_cons.1 h with rfl | h
    · omega
    · have := ih h; omega
theorem uList_mem {ts : List Tx} {t : Tx} (h : t ∈ ts) : t.length ≤ (uList ts).length := by
  cases ts with
  | nil => cases h
  | cons u ts =>
    unfold uList
    simp only [List.length_append]
    rcases List.mem_cons.1 h with rfl | h
    · omega
    · have := uMore_mem h; omega
theorem uAtom_short {a : RAtom} (hw : a.terms.length ≤ 3) (h : (uAtom a).length ≤ 1000) : short a := by
  unfold uAtom at h
  simp only [List.length_append, List.length_cons] at h
  refine ⟨by omega, by omega, fun t ht => ?_⟩
  have := uList_mem ht
  omega
theorem uItem_short {x : RItem} (hw : WItem x) (h : (uItem x).length ≤ 1000) : x.short := by
  obtain ⟨-, h2, h3⟩ := hw
  unfold uItem at h
  cases ho : x.out with
  | true =>
    rw [if_pos ho] at h
    obtain ⟨-, q1, q2⟩ := h2 ho
    simp only [List.length_cons] at h
    exact ⟨⟨by omega, by simp [q1], by simp [q1]⟩, by simp [q2]⟩
  | false =>
    rw [if_neg (by rw [ho]; simp)] at h
    obtain ⟨q1, -, q2, q3⟩ := h3 ho
    unfold uRule at h
    simp only [List.length_append] at h
    refine ⟨uAtom_short q1.2.2.1 (by omega), fun a ha => ?_⟩
    have hne : x.body ≠ [] := by intro e; rw [e] at ha; cases ha
    rw [if_neg hne] at h
    simp only [List.length_cons] at h
    have hm := uList_mem (List.mem_map_of_mem (f := uLit) ha)
    have hl : (uAtom a).length ≤ (uLit a).length := by unfold uLit; simp
    exact uAtom_short (q3 a ha).2.2.1 (by omega)
theorem uItems_mem {l : List RItem} {x : RItem} (h : x ∈ l) : (uItem x).length ≤ (uItems l).length := by
  induction l with
  | nil => cases h
  | cons y l ih =>
    unfold uItems at *
    simp only [List.flatMap_cons, List.length_append]
    rcases List.mem_cons.1 h with rfl | h
    · omega
    · have := ih h; omega
theorem parse_short {s : Tx} {l : List RItem} {r : Tx} (hs : s.length ≤ 1000) (h : pItems 16 s = .got l r) : ∀ x ∈ l, x.short := by
  obtain ⟨h1, -, -, h4⟩ := pItems_took _ _ _ _ h
  intro x hx
  have := uItems_mem hx
  rw [← h1] at this
  exact uItem_short (h4 x hx) (by omega)
def refPrint (s : Tx) : Tx × Int := if (refCheck s).1 = 0 then (wholeL (itemsL s), 0) else ([], (refCheck s).1)
end Go.Proofs.YtmoeoppbmhfbpaaDoorX
