import Derived.Test.YtilaanolklhkaaaGreatDoorZGramB
/- What the reader read is what the document's cuts make of the text. -/
namespace Go.Proofs.YtilaanolklhkaaaGreatDoorZ
open Go.Abs
set_option linter.unusedSimpArgs false
set_option linter.unusedVariables false

theorem byte_eq {b : UInt8} (c : UInt8) (h : ((b.toNat : Int) == (c.toNat : Int)) = true) : b = c := by
  have : b.toNat = c.toNat := by simp at h; omega
  exact UInt8.toNat_inj.1 this

/-! ### Words that are well made, and their texts -/
def WName (p : Tx) : Prop := p ≠ [] ∧ ∀ b ∈ p, smallB b.toNat = true
def WTerm (t : Tx) : Prop := t ≠ [] ∧ ∀ b ∈ t, largeB b.toNat = true ∨ digitB b.toNat = true
def WAtom (a : RAtom) : Prop := WName a.pred ∧ a.terms ≠ [] ∧ a.terms.length ≤ 3 ∧ ∀ t ∈ a.terms, WTerm t
def WItem (x : RItem) : Prop := WName x.head.pred ∧ (x.out = true → x.head.nt = false ∧ x.head.terms = [] ∧ x.body = []) ∧ (x.out = false → WAtom x.head ∧ x.head.nt = false ∧ x.body.length ≤ 5 ∧ ∀ a ∈ x.body, WAtom a)
def uMore (ts : List Tx) : Tx := ts.flatMap fun t => 44 :: t
def uList : List Tx → Tx
  | [] => []
  | t :: ts => t ++ uMore ts
def uAtom (a : RAtom) : Tx := a.pred ++ 40 :: (uList a.terms ++ [41])
def uLit (a : RAtom) : Tx := (if a.nt = true then [33] else []) ++ uAtom a
def uRule (x : RItem) : Tx := uAtom x.head ++ (if x.body = [] then [] else 58 :: 45 :: uList (x.body.map uLit))
def uItem (x : RItem) : Tx := if x.out = true then 63 :: x.head.pred else uRule x

/-- what was read stands ahead of what is left -/
def Took {α : Type} (W : α → Prop) (u : α → Tx) (s : Tx) (res : Rd α) : Prop := ∀ x r, res = .got x r → s = u x ++ r ∧ W x
theorem bnd_got {α β : Type} {a : Rd α} {f : α → Tx → Rd β} {y : β} {r : Tx} (h : a.bnd f = .got y r) : ∃ x q, a = .got x q ∧ f x q = .got y r := by
  cases a with
  | bad e => cases h
  | got x q => exact ⟨x, q, rfl, h⟩
theorem pByte_got {c : UInt8} {s r : Tx} {x : Unit} (h : pByte c.toNat s = .got x r) : s = c :: r := by
  cases s with
  | nil => cases h
  | cons b q =>
    unfold pByte at h
    dsimp only at h
    split at h
    · rename_i hb
      cases h
      rw [byte_eq c hb]
    · cases h
theorem pWhile_took (p : Int → Bool) : ∀ (n : Nat) (s : Tx), s = (pWhile p n s).1 ++ (pWhile p n s).2 ∧ (∀ b ∈ (pWhile p n s).1, p b.toNat = true)
  | 0, s => by simp [pWhile]
  | n + 1, [] => by simp [pWhile]
  | n + 1, b :: r => by
    unfold pWhile
    split
    · rename_i h
      obtain ⟨h1, h2⟩ := pWhile_took p n r
      refine ⟨by simp; exact h1, ?_⟩
      intro c hc
      rcases List.mem_cons.1 hc with rfl | hc
      · exact h
      · exact h2 c hc
    · simp
theorem pName_took {s r p : Tx} (h : pName s = .got p r) : s = p ++ r ∧ WName p := by
  unfold pName at h
  split at h
  · cases h
  · rename_i hne
    cases h
    exact ⟨(pWhile_took smallB 6 s).1, hne, (pWhile_took smallB 6 s).2⟩
theorem pTerm_took {s r t : Tx} (h : pTerm s = .got t r) : s = t ++ r ∧ WTerm t := by
  cases s with
  | nil => cases h
  | cons b q =>
    unfold pTerm at h
    dsimp only at h
    split at h
    · rename_i hl; cases h; exact ⟨rfl, by simp, by simp [hl]⟩
    · split at h
      · rename_i hz; cases h
        refine ⟨rfl, by simp, ?_⟩
        intro c hc
        simp at hc
        subst hc
        right
        simp [digitB] at *
        omega
      · split at h
        · rename_i hn
          cases h
          obtain ⟨h1, h2⟩ := pWhile_took digitB 2 q
          refine ⟨by simp; exact h1, by simp, ?_⟩
          intro c hc
          rcases List.mem_cons.1 hc with rfl | hc
          · right; exact digit_iff.2 (.inl hn)
          · right; exact h2 c hc
        · cases h
theorem pMore_took {α : Type} {W : α → Prop} {u : α → Tx} {f : Tx → Rd α} (hf : ∀ s x r, f s = .got x r → s = u x ++ r ∧ W x) : ∀ (n : Nat) (s : Tx) (xs : List α) (r : Tx), pMore f n s = .got xs r →
    s = uMore (xs.map u) ++ r ∧ xs.length ≤ n ∧ ∀ x ∈ xs, W x := by
  intro n
  induction n with
  | zero => intro s xs r h; cases h; simp [uMore]
  | succ n ih =>
    intro s xs r h
    cases s with
    | nil => cases h; simp [uMore]
    | cons b q =>
      unfold pMore at h
      split at h
      · rename_i hb
        obtain ⟨x, q1, h1, h2⟩ := bnd_got h
        obtain ⟨ys, q2, h3, h4⟩ := bnd_got h2
        cases h4
        obtain ⟨g1, g2⟩ := hf _ _ _ h1
        obtain ⟨g3, g4, g5⟩ := ih _ _ _ h3
        refine ⟨?_, by simp; omega, ?_⟩
        · rw [byte_eq 44 hb, g1, g3]; simp [uMore]
        · intro y hy
          rcases List.mem_cons.1 hy with rfl | hy
          · exact g2
          · exact g5 y hy
      · cases h; simp [uMore]
theorem pAtom_took {nt : Bool} {s r : Tx} {a : RAtom} (h : pAtom nt s = .got a r) : s = uAtom a ++ r ∧ WAtom a ∧ a.nt = nt := by
  unfold pAtom pArgs at h
  obtain ⟨p, q1, h1, h⟩ := bnd_got h
  obtain ⟨_, q2, h2, h⟩ := bnd_got h
  obtain ⟨t, q3, h3, h⟩ := bnd_got h
  obtain ⟨ts, q4, h4, h⟩ := bnd_got h
  obtain ⟨_, q5, h5, h⟩ := bnd_got h
  cases h
  obtain ⟨a1, a2⟩ := pName_took h1
  have a3 := pByte_got (c := 40) h2
  obtain ⟨a4, a5⟩ := pTerm_took h3
  obtain ⟨a6, a7, a8⟩ := pMore_took (u := id) (fun s x r h => pTerm_took h) _ _ _ _ h4
  have a9 := pByte_got (c := 41) h5
  refine ⟨?_, ⟨a2, by simp, by simp; omega, ?_⟩, rfl⟩
  · rw [a1, a3, a4, a6, a9]; simp [uAtom, uList]
  · intro y hy
    rcases List.mem_cons.1 hy with rfl | hy
    · exact a5
    · exact a8 y hy
theorem pLit_took {s r : Tx} {a : RAtom} (h : pLit s = .got a r) : s = uLit a ++ r ∧ WAtom a := by
  cases s with
  | nil => cases h
  | cons b q =>
    unfold pLit at h
    dsimp only at h
    split at h
    · rename_i hb
      obtain ⟨h1, h2, h3⟩ := pAtom_took h
      exact ⟨by rw [byte_eq 33 hb, h1]; simp [uLit, h3], h2⟩
    · obtain ⟨h1, h2, h3⟩ := pAtom_took h
      exact ⟨by rw [h1]; simp [uLit, h3], h2⟩
theorem pItem_took {s r : Tx} {x : RItem} (h : pItem s = .got x r) : s = uItem x ++ 46 :: r ∧ WItem x := by
  cases s with
  | nil => cases h
  | cons b q =>
    unfold pItem at h
    dsimp only at h
    split at h
    · rename_i hb
      unfold pOut at h
      obtain ⟨p, q1, h1, h⟩ := bnd_got h
      obtain ⟨_, q2, h2, h⟩ := bnd_got h
      cases h
      obtain ⟨a1, a2⟩ := pName_took h1
      have a3 := pByte_got (c := 46) h2
      exact ⟨by rw [byte_eq 63 hb, a1, a3]; simp [uItem], a2, by simp, by simp⟩
    · unfold pRule at h
      obtain ⟨hd, q1, h1, h⟩ := bnd_got h
      obtain ⟨a1, a2, a3⟩ := pAtom_took h1
      cases q1 with
      | nil => cases h
      | cons c q2 =>
        unfold pTail at h
        dsimp only at h
        split at h
        · rename_i hc
          cases h
          exact ⟨by rw [a1, byte_eq 46 hc]; simp [uItem, uRule], a2.1, by simp, fun _ => ⟨a2, a3, by simp, by simp⟩⟩
        · unfold pBody at h
          obtain ⟨_, q3, h2, h⟩ := bnd_got h
          obtain ⟨_, q4, h3, h⟩ := bnd_got h
          obtain ⟨l, q5, h4, h⟩ := bnd_got h
          obtain ⟨ls, q6, h5, h⟩ := bnd_got h
          obtain ⟨_, q7, h6, h⟩ := bnd_got h
          cases h
          have b1 := pByte_got (c := 58) h2
          have b2 := pByte_got (c := 45) h3
          obtain ⟨b3, b4⟩ := pLit_took h4
          obtain ⟨b5, b6, b7⟩ := pMore_took (fun s x r h => pLit_took h) _ _ _ _ h5
          have b8 := pByte_got (c := 46) h6
          refine ⟨by rw [a1, b1, b2, b3, b5, b8]; simp [uItem, uRule, uList], a2.1, by simp, fun _ => ⟨a2, a3, by simp; omega, ?_⟩⟩
          intro y hy
          rcases List.mem_cons.1 hy with rfl | hy
          · exact b4
          · exact b7 y hy
def uItems (l : List RItem) : Tx := l.flatMap fun x => uItem x ++ [46]
theorem pItems_took : ∀ (n : Nat) (s : Tx) (l : List RItem) (r : Tx), pItems n s = .got l r → s = uItems l ∧ r = [] ∧ l.length ≤ n ∧ ∀ x ∈ l, WItem x := by
  intro n
  induction n with
  | zero =>
    intro s l r h
    cases s with
    | nil => cases h; simp [uItems]
    | cons b q => cases h
  | succ n ih =>
    intro s l r h
    cases s with
    | nil => cases h; simp [uItems]
    | cons b q =>
      unfold pItems at h
      obtain ⟨x, q1, h1, h⟩ := bnd_got h
      obtain ⟨xs, q2, h2, h⟩ := bnd_got h
      cases h
      obtain ⟨a1, a2⟩ := pItem_took h1
      obtain ⟨b1, b2, b3, b4⟩ := ih _ _ _ h2
      refine ⟨by rw [a1, b1]; simp [uItems], b2, by simp; omega, ?_⟩
      intro y hy
      rcases List.mem_cons.1 hy with rfl | hy
      · exact a2
      · exact b4 y hy
end Go.Proofs.YtilaanolklhkaaaGreatDoorZ
