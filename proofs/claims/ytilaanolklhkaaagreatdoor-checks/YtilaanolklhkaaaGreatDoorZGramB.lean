import Derived.Test.YtilaanolklhkaaaGreatDoorZGram
/- The scanner goes as the reader goes. -/
namespace Go.Proofs.YtilaanolklhkaaaGreatDoorZ
open Go.Abs
set_option linter.unusedSimpArgs false
set_option linter.unusedVariables false

theorem bnd_assoc {α β γ : Type} (a : Rd α) (f : α → Tx → Rd β) (g : β → Tx → Rd γ) : (a.bnd f).bnd g = a.bnd fun x r => (f x r).bnd g := by cases a <;> rfl
theorem digit_iff {c : Int} : digitB c = true ↔ (nineB c = true ∨ (c == 48) = true) := by
  simp [digitB, nineB]; omega
theorem large_not_nine {c : Int} (h : largeB c = true) : nineB c = false := by
  simp [largeB, nineB] at *; omega
theorem large_not_zero {c : Int} (h : largeB c = true) : (c == 48) = false := by
  simp [largeB] at *; omega

/-- a number's end is a term's end -/
theorem seven_eight {X : Scan} {s : Tx} (h7 : X.st = 7) (h : ∀ b r, s = b :: r → digitB b.toNat = true → ¬ X.digits < 3) : stop X s = stop { X with st := 8 } s := by
  cases s with
  | nil => rw [stop_nil (by omega), stop_nil (by simp)]
  | cons b r =>
    have hd := h b r rfl
    have hq : ¬ ((X.st == 7) = true ∧ decide (X.digits < 3) = true ∧ (nineB b.toNat = true ∨ ((b.toNat : Int) == 48) = true)) := by
      rintro ⟨-, q1, q2⟩
      exact hd (digit_iff.2 q2) (by simpa using q1)
    have e1 : stepS X b = if ((b.toNat : Int) == 41) = true then ({ X with lits := if (!X.head) = true then X.lits + 1 else X.lits, st := 9 }, true) else if ((b.toNat : Int) == 44) = true ∧ decide (X.terms < 3) = true then ({ X with st := 6 }, true) else (X, false) := by
      unfold stepS innerF
      rw [if_pos (by simp [h7]), if_neg (by simp [h7]), if_neg (by simp [h7]), if_neg hq]
    have e2 : stepS { X with st := 8 } b = if ((b.toNat : Int) == 41) = true then ({ X with lits := if (!X.head) = true then X.lits + 1 else X.lits, st := 9 }, true) else if ((b.toNat : Int) == 44) = true ∧ decide (X.terms < 3) = true then ({ X with st := 6 }, true) else ({ X with st := 8 }, false) := by
      unfold stepS innerF
      rw [if_pos (by simp), if_neg (by simp), if_neg (by simp), if_neg (by simp)]
    unfold stop
    rw [e1, e2]
    by_cases h1 : ((b.toNat : Int) == 41) = true
    · rw [if_pos h1, if_pos h1]
    · rw [if_neg h1, if_neg h1]
      by_cases h2 : ((b.toNat : Int) == 44) = true ∧ decide (X.terms < 3) = true
      · rw [if_pos h2, if_pos h2]
      · rw [if_neg h2, if_neg h2]; rfl

theorem via_digits : ∀ (n : Nat) (s : Tx) (X : Scan), X.st = 7 → X.digits = 3 - (n : Int) → ∃ X', X'.st = 8 ∧ X'.terms = X.terms ∧ same3 X X' ∧ stop X s = stop X' (pWhile digitB n s).2 := by
  intro n
  induction n with
  | zero =>
    intro s X h7 hd
    exact ⟨{ X with st := 8 }, rfl, rfl, ⟨rfl, rfl, rfl⟩, seven_eight h7 (fun _ _ _ _ => by omega)⟩
  | succ n ih =>
    intro s X h7 hd
    cases s with
    | nil => exact ⟨{ X with st := 8 }, rfl, rfl, ⟨rfl, rfl, rfl⟩, seven_eight h7 (fun _ _ h _ => by cases h)⟩
    | cons b r =>
      unfold pWhile
      by_cases hb : digitB b.toNat = true
      · rw [if_pos hb]
        have e : stepS X b = ({ X with digits := X.digits + 1 }, true) := by
          have := digit_iff.1 hb
          unfold stepS innerF
          rw [if_pos (by simp [h7]), if_neg (by simp [h7]), if_neg (by simp [h7]), if_pos ⟨by simp [h7], by simp; omega, this⟩]
        rw [stop_go (by rw [e]), e]
        obtain ⟨X', h1, h2, h3, h4⟩ := ih r { X with digits := X.digits + 1 } h7 (by simp; omega)
        exact ⟨X', h1, h2, h3, h4⟩
      · rw [if_neg hb]
        exact ⟨{ X with st := 8 }, rfl, rfl, ⟨rfl, rfl, rfl⟩, seven_eight h7 (fun c q h hc => by cases h; exact absurd hc hb)⟩

theorem via_term (s : Tx) (X : Scan) (h6 : X.st = 6) : Via (fun X' => X'.st = 8 ∧ X'.terms = X.terms + 1 ∧ same3 X X') (pTerm s) (stop X s) := by
  cases s with
  | nil => exact Via.err (stop_nil (by omega))
  | cons b r =>
    unfold pTerm
    by_cases hl : largeB b.toNat = true
    · simp only [hl, if_true]
      have e : stepS X b = ({ X with terms := X.terms + 1, digits := 1, st := 8 }, true) := by
        simp [stepS, innerF, h6, hl, large_not_nine hl]
      rw [stop_go (by rw [e]), e]
      exact Via.ret ⟨rfl, rfl, rfl, rfl, rfl⟩
    · simp only [hl]
      by_cases hz : ((b.toNat : Int) == 48) = true
      · have hn : nineB b.toNat = false := by simp [nineB] at *; omega
        simp only [hz, if_true]
        have e : stepS X b = ({ X with terms := X.terms + 1, digits := 1, st := 8 }, true) := by
          simp [stepS, innerF, h6, hl, hz, hn]
        rw [stop_go (by rw [e]), e]
        exact Via.ret ⟨rfl, rfl, rfl, rfl, rfl⟩
      · simp only [hz]
        by_cases hn : nineB b.toNat = true
        · simp only [hn, if_true]
          have e : stepS X b = ({ X with terms := X.terms + 1, digits := 1, st := 7 }, true) := by
            simp [stepS, innerF, h6, hn]
          rw [stop_go (by rw [e]), e]
          obtain ⟨X', h1, h2, h3, h4⟩ := via_digits 2 r { X with terms := X.terms + 1, digits := 1, st := 7 } rfl (by simp)
          exact ⟨X', ⟨h1, h2, h3⟩, h4⟩
        · simp only [hn]
          refine Via.err (stop_no ?_)
          simp [stepS, innerF, h6, hl, hz, hn]

/-- behind an atom -/
def Done (it li : Int) (hd : Bool) (X : Scan) : Prop := X.st = 9 ∧ X.items = it ∧ X.head = hd ∧ X.lits = if hd = true then li else li + 1

theorem via_close {β : Type} (s : Tx) (X : Scan) (k : β) (h8 : X.st = 8) (h : ∀ b r, s = b :: r → ((b.toNat : Int) == 44) = true → ¬ X.terms < 3) :
    Via (Done X.items X.lits X.head) ((pByte 41 s).bnd fun _ r => .got k r) (stop X s) := by
  cases s with
  | nil => exact Via.err (stop_nil (by omega))
  | cons b r =>
    unfold pByte
    have hh := h b r rfl
    by_cases hb : ((b.toNat : Int) == 41) = true
    · simp only [hb, if_true]
      have e : stepS X b = ({ X with lits := if (!X.head) = true then X.lits + 1 else X.lits, st := 9 }, true) := by
        simp [stepS, innerF, h8, hb]
      rw [stop_go (by rw [e]), e]
      refine Via.ret ⟨rfl, rfl, rfl, ?_⟩
      cases X.head <;> simp
    · simp only [hb]
      refine Via.err (stop_no ?_)
      simp [stepS, innerF, h8, hb]
      rw [if_neg]
      rintro ⟨h1, h2⟩
      have := hh (by simpa using h1)
      omega

theorem via_args {β : Type} : ∀ (n : Nat) (s : Tx) (X : Scan) (k : List Tx → β), X.st = 8 → X.terms = 3 - (n : Int) →
    Via (Done X.items X.lits X.head) ((pMore pTerm n s).bnd fun ts r => (pByte 41 r).bnd fun _ r => .got (k ts) r) (stop X s) := by
  intro n
  induction n with
  | zero =>
    intro s X k h8 ht
    exact via_close s X (k []) h8 (fun _ _ _ _ => by omega)
  | succ n ih =>
    intro s X k h8 ht
    cases s with
    | nil => exact Via.err (stop_nil (by omega))
    | cons b r =>
      unfold pMore
      by_cases hb : ((b.toNat : Int) == 44) = true
      · simp only [hb, if_true]
        have e : stepS X b = ({ X with st := 6 }, true) := by
          have : ¬ ((b.toNat : Int) == 41) = true := by simp at *; omega
          simp [stepS, innerF, h8, hb, this]
          omega
        rw [stop_go (by rw [e]), e, bnd_assoc]
        refine Via.bind (via_term r { X with st := 6 } rfl) ?_
        rintro x r1 X' ⟨h1, h2, h3, h4, h5⟩
        rw [bnd_assoc]
        have := ih r1 X' (fun ts => k (x :: ts)) h1 (by simp at h2; omega)
        rw [h3, h4, h5] at this
        exact this
      · simp only [hb]
        exact via_close (b :: r) X (k []) h8 (fun c q h hc => by cases h; exact absurd hc hb)

theorem via_atom (nt : Bool) (b : UInt8) (r : Tx) (X : Scan) (it li : Int) (hd : Bool) (hs : smallB b.toNat = true → ∃ X1, stepS X b = (X1, true) ∧ X1.st = 5 ∧ X1.letters = 1 ∧ X1.items = it ∧ X1.lits = li ∧ X1.head = hd)
    (hn : smallB b.toNat = false → (stepS X b).2 = false) : Via (Done it li hd) (pAtom nt (b :: r)) (stop X (b :: r)) := by
  unfold pAtom pName
  by_cases hb : smallB b.toNat = true
  · obtain ⟨X1, e, h1, h2, h3, h4, h5⟩ := hs hb
    rw [stop_go (by rw [e]), e]
    have e6 : pWhile smallB 6 (b :: r) = (b :: (pWhile smallB 5 r).1, (pWhile smallB 5 r).2) := by rw [pWhile, if_pos hb]
    rw [e6]
    simp only [reduceCtorEq, if_false, Rd.bnd]
    refine Via.bind (via_name 5 r X1 h1 (by omega) (by omega)) ?_
    rintro _ r1 X' ⟨g1, g2, g3, g4, g5⟩
    unfold pArgs
    refine Via.bind (via_term r1 X' g1) ?_
    rintro t r2 X2 ⟨q1, q2, q3, q4, q5⟩
    have := via_args 2 r2 X2 (fun ts => ({ nt := nt, pred := b :: (pWhile smallB 5 r).1, terms := t :: ts } : RAtom)) q1 (by omega)
    rw [q3, g3, h3, q4, g4, h4, q5, g5, h5] at this
    exact this
  · have hb' : smallB b.toNat = false := by simpa using hb
    have e6 : pWhile smallB 6 (b :: r) = ([], b :: r) := by rw [pWhile, if_neg hb]
    rw [e6]
    simp only [if_true, Rd.bnd]
    exact Via.err (stop_no (hn hb'))

theorem via_lit (s : Tx) (X : Scan) (h3 : X.st = 3) : Via (Done X.items X.lits X.head) (pLit s) (stop X s) := by
  cases s with
  | nil => exact Via.err (stop_nil (by omega))
  | cons b r =>
    unfold pLit
    by_cases hb : ((b.toNat : Int) == 33) = true
    · simp only [hb, if_true]
      have e : stepS X b = ({ X with letters := 1, st := 4 }, true) := by simp [stepS, outerF, h3, hb]
      rw [stop_go (by rw [e]), e]
      cases r with
      | nil =>
        refine Via.err (stop_nil (by simp))
      | cons c q =>
        refine via_atom true c q _ _ _ _ (fun hs => ⟨{ X with letters := 1, st := 5 }, ?_, rfl, rfl, rfl, rfl, rfl⟩) (fun hs => ?_)
        · simp [stepS, outerF, hs]
        · simp [stepS, outerF, hs]
    · simp only [hb]
      refine via_atom false b r _ _ _ _ (fun hs => ⟨{ X with letters := 1, st := 5 }, ?_, rfl, rfl, rfl, rfl, rfl⟩) (fun hs => ?_)
      · simp [stepS, outerF, h3, hb, hs]
      · simp [stepS, outerF, h3, hb, hs]

def Next (it : Int) (X : Scan) : Prop := X.st = 0 ∧ X.items = it + 1

theorem via_dot {β : Type} (s : Tx) (X : Scan) (k : β) (h9 : X.st = 9) (hh : X.head = false) (h : ∀ b r, s = b :: r → ((b.toNat : Int) == 44) = true → ¬ X.lits < 5) :
    Via (Next X.items) ((pByte 46 s).bnd fun _ r => .got k r) (stop X s) := by
  cases s with
  | nil => exact Via.err (stop_nil (by omega))
  | cons b r =>
    unfold pByte
    have hq := h b r rfl
    by_cases hb : ((b.toNat : Int) == 46) = true
    · simp only [hb, if_true]
      have e : stepS X b = ({ X with items := X.items + 1, st := 0 }, true) := by simp [stepS, outerF, h9, hb]
      rw [stop_go (by rw [e]), e]
      exact Via.ret ⟨rfl, rfl⟩
    · simp only [hb]
      refine Via.err (stop_no ?_)
      simp [stepS, outerF, h9, hb, hh]
      rw [if_neg]
      rintro ⟨h1, h2⟩
      have := hq (by simpa using h1)
      omega

theorem via_lits {β : Type} : ∀ (n : Nat) (s : Tx) (X : Scan) (k : List RAtom → β), X.st = 9 → X.head = false → X.lits = 5 - (n : Int) →
    Via (Next X.items) ((pMore pLit n s).bnd fun ts r => (pByte 46 r).bnd fun _ r => .got (k ts) r) (stop X s) := by
  intro n
  induction n with
  | zero =>
    intro s X k h9 hh ht
    exact via_dot s X (k []) h9 hh (fun _ _ _ _ => by omega)
  | succ n ih =>
    intro s X k h9 hh ht
    cases s with
    | nil => exact Via.err (stop_nil (by omega))
    | cons b r =>
      unfold pMore
      by_cases hb : ((b.toNat : Int) == 44) = true
      · simp only [hb, if_true]
        have e : stepS X b = ({ X with st := 3 }, true) := by
          have h1 : ¬ ((b.toNat : Int) == 46) = true := by simp at *; omega
          simp [stepS, outerF, h9, hb, h1, hh]
          omega
        rw [stop_go (by rw [e]), e, bnd_assoc]
        refine Via.bind (via_lit r { X with st := 3 } rfl) ?_
        rintro x r1 X' ⟨h1, h2, h3, h4⟩
        rw [bnd_assoc]
        have := ih r1 X' (fun ts => k (x :: ts)) h1 (by rw [h3]; exact hh) (by simp [hh] at h4; omega)
        rw [h2] at this
        exact this
      · simp only [hb]
        exact via_dot (b :: r) X (k []) h9 hh (fun c q h hc => by cases h; exact absurd hc hb)

theorem via_body (h : RAtom) (s : Tx) (X : Scan) (h3 : X.st = 3) (hh : X.head = false) (hl : X.lits = 0) : Via (Next X.items) (pBody h s) (stop X s) := by
  unfold pBody
  refine Via.bind (via_lit s X h3) ?_
  rintro x r X' ⟨h1, h2, h4, h5⟩
  have := via_lits 4 r X' (fun ls => ({ out := false, head := h, body := x :: ls } : RItem)) h1 (by rw [h4]; exact hh) (by simp [hh, hl] at h5; omega)
  rw [h2] at this
  exact this

theorem via_tail (h : RAtom) (s : Tx) (X : Scan) (h9 : X.st = 9) (hh : X.head = true) (hl : X.lits = 0) : Via (Next X.items) (pTail h s) (stop X s) := by
  cases s with
  | nil => exact Via.err (stop_nil (by omega))
  | cons b r =>
    unfold pTail
    by_cases hb : ((b.toNat : Int) == 46) = true
    · simp only [hb, if_true]
      have e : stepS X b = ({ X with items := X.items + 1, st := 0 }, true) := by simp [stepS, outerF, h9, hb]
      rw [stop_go (by rw [e]), e]
      exact Via.ret ⟨rfl, rfl⟩
    · simp only [hb]
      unfold pByte
      by_cases hc : ((b.toNat : Int) == 58) = true
      · simp only [hc, if_true]
        have e : stepS X b = ({ X with st := 10 }, true) := by simp [stepS, outerF, h9, hb, hc, hh]
        rw [stop_go (by rw [e]), e]
        cases r with
        | nil => exact Via.err (stop_nil (by simp))
        | cons c q =>
          by_cases hd : ((c.toNat : Int) == 45) = true
          · simp only [hd, if_true, Rd.bnd]
            have e : stepS { X with st := 10 } c = ({ X with head := false, st := 3 }, true) := by simp [stepS, outerF, hd]
            simp only [Bool.false_eq_true, if_false]
            rw [stop_go (by rw [e]), e]
            exact via_body h q { X with head := false, st := 3 } rfl rfl hl
          · simp only [hd, Rd.bnd]
            refine Via.err (stop_no ?_)
            simp [stepS, outerF, hd]
      · simp only [hc]
        refine Via.err (stop_no ?_)
        simp [stepS, outerF, h9, hb, hc, hh]

theorem via_oname : ∀ (n : Nat) (s : Tx) (X : Scan) (k : Tx → RItem), X.st = 2 → X.letters = 6 - (n : Int) →
    Via (Next X.items) ((pByte 46 (pWhile smallB n s).2).bnd fun _ r => .got (k (pWhile smallB n s).1) r) (stop X s) := by
  intro n
  induction n with
  | zero =>
    intro s X k h2 hl
    cases s with
    | nil => exact Via.err (stop_nil (by omega))
    | cons b r =>
      unfold pWhile pByte
      by_cases hb : ((b.toNat : Int) == 46) = true
      · simp only [hb, if_true]
        have e : stepS X b = ({ X with items := X.items + 1, st := 0 }, true) := by simp [stepS, outerF, h2, hl, hb]
        rw [stop_go (by rw [e]), e]
        exact Via.ret ⟨rfl, rfl⟩
      · simp only [hb]
        refine Via.err (stop_no ?_)
        simp [stepS, outerF, h2, hl, hb]
  | succ n ih =>
    intro s X k h2 hl
    cases s with
    | nil => exact Via.err (stop_nil (by omega))
    | cons b r =>
      unfold pWhile
      by_cases hs : smallB b.toNat = true
      · simp only [hs, if_true]
        have e : stepS X b = ({ X with letters := X.letters + 1, st := 2 }, true) := by
          simp [stepS, outerF, h2, hs]; omega
        rw [stop_go (by rw [e]), e]
        exact ih r { X with letters := X.letters + 1, st := 2 } (fun x => k (b :: x)) rfl (by simp; omega)
      · simp only [hs]
        unfold pByte
        by_cases hb : ((b.toNat : Int) == 46) = true
        · simp only [Bool.false_eq_true, if_false, hb, if_true]
          have e : stepS X b = ({ X with items := X.items + 1, st := 0 }, true) := by simp [stepS, outerF, h2, hs, hb]
          rw [stop_go (by rw [e]), e]
          exact Via.ret ⟨rfl, rfl⟩
        · simp only [Bool.false_eq_true, if_false, hb]
          refine Via.err (stop_no ?_)
          simp [stepS, outerF, h2, hs, hb]

theorem via_item (b : UInt8) (r : Tx) (X : Scan) (h0 : X.st = 0) (hi : X.items ≠ 16) : Via (Next X.items) (pItem (b :: r)) (stop X (b :: r)) := by
  unfold pItem
  by_cases hb : ((b.toNat : Int) == 63) = true
  · simp only [hb, if_true]
    have e : stepS X b = ({ X with head := true, letters := 0, lits := 0, st := 1 }, true) := by simp [stepS, outerF, h0, hi, hb]
    rw [stop_go (by rw [e]), e]
    unfold pOut pName
    cases r with
    | nil => exact Via.err (stop_nil (by simp))
    | cons c q =>
      by_cases hs : smallB c.toNat = true
      · have e6 : pWhile smallB 6 (c :: q) = (c :: (pWhile smallB 5 q).1, (pWhile smallB 5 q).2) := by rw [pWhile, if_pos hs]
        rw [e6]
        simp only [reduceCtorEq, if_false, Rd.bnd]
        have e : stepS { X with head := true, letters := 0, lits := 0, st := 1 } c = ({ X with head := true, letters := 1, lits := 0, st := 2 }, true) := by simp [stepS, outerF, hs]
        rw [stop_go (by rw [e]), e]
        exact via_oname 5 q { X with head := true, letters := 1, lits := 0, st := 2 } (fun x => { out := true, head := { nt := false, pred := c :: x, terms := [] }, body := [] }) rfl (by simp)
      · have e6 : pWhile smallB 6 (c :: q) = ([], c :: q) := by rw [pWhile, if_neg hs]
        rw [e6]
        simp only [if_true, Rd.bnd]
        refine Via.err (stop_no ?_)
        simp [stepS, outerF, hs]
  · simp only [hb]
    unfold pRule
    refine Via.bind (via_atom false b r X X.items 0 true (fun hs => ⟨{ X with head := true, letters := 1, lits := 0, st := 5 }, ?_, rfl, rfl, rfl, rfl, rfl⟩) (fun hs => ?_)) ?_
    · simp [stepS, outerF, h0, hi, hb, hs]
    · simp [stepS, outerF, h0, hi, hb, hs]
    · rintro x r X' ⟨h1, h2, h3, h4⟩
      have := via_tail x r X' h1 h3 (by simpa using h4)
      rw [h2] at this
      exact this

theorem via_items : ∀ (n : Nat) (s : Tx) (X : Scan), X.st = 0 → X.items = 16 - (n : Int) → stop X s = match pItems n s with | .bad e => some e | .got _ _ => none := by
  intro n
  induction n with
  | zero =>
    intro s X h0 hi
    cases s with
    | nil => simp [stop, pItems, h0]
    | cons b r =>
      simp only [pItems]
      refine stop_no ?_
      simp [stepS, outerF, h0, hi]
  | succ n ih =>
    intro s X h0 hi
    cases s with
    | nil => simp [stop, pItems, h0]
    | cons b r =>
      have hv := via_item b r X h0 (by omega)
      unfold pItems
      cases hp : pItem (b :: r) with
      | bad e => rw [hp] at hv; exact hv
      | got x q =>
        rw [hp] at hv
        obtain ⟨X', ⟨h1, h2⟩, h3⟩ := hv
        rw [h3, ih q X' h1 (by omega)]
        simp only [Rd.bnd]
        cases pItems n q <;> rfl

theorem placeL_parse (s : Tx) : placeL s = match pItems 16 s with | .bad e => ((s.length - e.length : Nat) : Int) | .got _ _ => -1 := by
  rw [placeL_stop, via_items 16 s scan0 rfl rfl]
  cases pItems 16 s <;> rfl
end Go.Proofs.YtilaanolklhkaaaGreatDoorZ
