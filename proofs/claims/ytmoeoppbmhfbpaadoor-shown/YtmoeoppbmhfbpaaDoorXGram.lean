import Derived.Test.YtmoeoppbmhfbpaaDoorXRefA
import Derived.Test.YtmoeoppbmhfbpaaDoorXRefH
/- The words of a program: a reader that goes down, held against the document's scanner. -/
namespace Go.Proofs.YtmoeoppbmhfbpaaDoorX
open Go.Abs
set_option linter.unusedSimpArgs false
set_option linter.unusedVariables false

abbrev Tx := List UInt8
inductive Rd (α : Type) where
  | bad (e : Tx)
  | got (x : α) (r : Tx)
def Rd.bnd {α β : Type} : Rd α → (α → Tx → Rd β) → Rd β
  | .bad e, _ => .bad e
  | .got x r, f => f x r
def digitB (c : Int) : Bool := decide (48 ≤ c) && decide (c ≤ 57)
def pByte (c : Int) : Tx → Rd Unit
  | [] => .bad []
  | b :: r => if ((b.toNat : Int) == c) = true then .got () r else .bad (b :: r)
def pWhile (p : Int → Bool) : Nat → Tx → Tx × Tx
  | 0, s => ([], s)
  | _ + 1, [] => ([], [])
  | n + 1, b :: r => if p b.toNat = true then (b :: (pWhile p n r).1, (pWhile p n r).2) else ([], b :: r)
def pName (s : Tx) : Rd Tx := if (pWhile smallB 6 s).1 = [] then .bad s else .got (pWhile smallB 6 s).1 (pWhile smallB 6 s).2
def pTerm : Tx → Rd Tx
  | [] => .bad []
  | b :: r => if largeB b.toNat = true then .got [b] r else if ((b.toNat : Int) == 48) = true then .got [b] r
    else if nineB b.toNat = true then .got (b :: (pWhile digitB 2 r).1) (pWhile digitB 2 r).2 else .bad (b :: r)
def pMore {α : Type} (f : Tx → Rd α) : Nat → Tx → Rd (List α)
  | 0, s => .got [] s
  | _ + 1, [] => .got [] []
  | n + 1, b :: r => if ((b.toNat : Int) == 44) = true then
      (f r).bnd fun x r1 => (pMore f n r1).bnd fun xs r2 => .got (x :: xs) r2
    else .got [] (b :: r)
def pArgs (nt : Bool) (p : Tx) (s : Tx) : Rd RAtom :=
  (pTerm s).bnd fun t r => (pMore pTerm 2 r).bnd fun ts r => (pByte 41 r).bnd fun _ r => .got { nt := nt, pred := p, terms := t :: ts } r
def pAtom (nt : Bool) (s : Tx) : Rd RAtom :=
  (pName s).bnd fun p r => (pByte 40 r).bnd fun _ r => pArgs nt p r
def pLit : Tx → Rd RAtom
  | [] => .bad []
  | b :: r => if ((b.toNat : Int) == 33) = true then pAtom true r else pAtom false (b :: r)
def pBody (h : RAtom) (s : Tx) : Rd RItem :=
  (pLit s).bnd fun l r => (pMore pLit 4 r).bnd fun ls r => (pByte 46 r).bnd fun _ r => .got { out := false, head := h, body := l :: ls } r
def pTail (h : RAtom) : Tx → Rd RItem
  | [] => .bad []
  | b :: r => if ((b.toNat : Int) == 46) = true then .got { out := false, head := h, body := [] } r else
      (pByte 58 (b :: r)).bnd fun _ r => (pByte 45 r).bnd fun _ r => pBody h r
def pRule (s : Tx) : Rd RItem := (pAtom false s).bnd fun h r => pTail h r
def pOut (s : Tx) : Rd RItem :=
  (pName s).bnd fun p r => (pByte 46 r).bnd fun _ r => .got { out := true, head := { nt := false, pred := p, terms := [] }, body := [] } r
def pItem : Tx → Rd RItem
  | [] => .bad []
  | b :: r => if ((b.toNat : Int) == 63) = true then pOut r else pRule (b :: r)
def pItems : Nat → Tx → Rd (List RItem)
  | _, [] => .got [] []
  | 0, s => .bad s
  | n + 1, s => (pItem s).bnd fun x r => (pItems n r).bnd fun xs r => .got (x :: xs) r

/-! ### The scanner, by what is left of the text -/
def stop : Scan → Tx → Option Tx
  | X, [] => if X.st != 0 then some [] else none
  | X, c :: r => if (stepS X c).2 = true then stop (stepS X c).1 r else some (c :: r)
theorem runS_stop : ∀ (s : Tx) (X : Scan) (i : Nat),
    (match (runS X s i).2 with | some j => (j : Int) | none => if (runS X s i).1.st != 0 then ((i + s.length : Nat) : Int) else -1) = match stop X s with | some r => ((i + s.length - r.length : Nat) : Int) | none => -1 := by
  intro s
  induction s with
  | nil => intro X i; simp only [runS, stop]; split <;> simp_all
  | cons c r ih =>
    intro X i
    unfold runS stop
    by_cases h : (stepS X c).2 = true
    · simp only [h, if_true]
      have := ih (stepS X c).1 (i + 1)
      rw [show i + (c :: r).length = i + 1 + r.length by simp; omega]
      exact this
    · simp only [h]
      simp
theorem placeL_stop (s : Tx) : placeL s = match stop scan0 s with | some r => ((s.length - r.length : Nat) : Int) | none => -1 := by
  have := runS_stop s scan0 0
  unfold placeL
  rw [Nat.zero_add] at this
  rw [← this]
  rfl

def Via {α : Type} (P : Scan → Prop) (res : Rd α) (o : Option Tx) : Prop :=
  match res with
  | .bad e => o = some e
  | .got _ r => ∃ X', P X' ∧ o = stop X' r
theorem Via.bind {α β : Type} {P Q : Scan → Prop} {res : Rd α} {o : Option Tx} {f : α → Tx → Rd β} (h : Via P res o) (k : ∀ x r X', P X' → Via Q (f x r) (stop X' r)) : Via Q (res.bnd f) o := by
  cases res with
  | bad e => exact h
  | got x r =>
    obtain ⟨X', hP, rfl⟩ := h
    exact k x r X' hP
theorem Via.ret {α : Type} {P : Scan → Prop} {x : α} {r : Tx} {X : Scan} (h : P X) : Via P (.got x r) (stop X r) := ⟨X, h, rfl⟩
theorem Via.err {α : Type} {P : Scan → Prop} {e : Tx} {o : Option Tx} (h : o = some e) : Via (α := α) P (.bad e) o := h
theorem Via.mono {α : Type} {P Q : Scan → Prop} {res : Rd α} {o : Option Tx} (h : Via P res o) (k : ∀ X, P X → Q X) : Via Q res o := by
  cases res with
  | bad e => exact h
  | got x r =>
    obtain ⟨X', hP, e⟩ := h
    exact ⟨X', k _ hP, e⟩

theorem stop_go {X : Scan} {c : UInt8} {r : Tx} (h : (stepS X c).2 = true) : stop X (c :: r) = stop (stepS X c).1 r := by
  rw [stop, if_pos h]
theorem stop_no {X : Scan} {c : UInt8} {r : Tx} (h : (stepS X c).2 = false) : stop X (c :: r) = some (c :: r) := by
  rw [stop, if_neg (by simp [h])]
theorem stop_nil {X : Scan} (h : X.st ≠ 0) : stop X [] = some [] := by
  rw [stop, if_pos (by simpa using h)]

def same3 (X X' : Scan) : Prop := X'.items = X.items ∧ X'.lits = X.lits ∧ X'.head = X.head

theorem via_name : ∀ (n : Nat) (s : Tx) (X : Scan), X.st = 5 → X.letters = 6 - (n : Int) → n ≤ 6 →
    Via (fun X' => X'.st = 6 ∧ X'.terms = 0 ∧ same3 X X') (pByte 40 (pWhile smallB n s).2) (stop X s) := by
  intro n
  induction n with
  | zero =>
    intro s X h5 hl hn
    cases s with
    | nil => exact Via.err (stop_nil (by omega))
    | cons b r =>
      unfold pWhile pByte
      simp only
      by_cases hb : ((b.toNat : Int) == 40) = true
      · rw [if_pos hb]
        have e : stepS X b = ({ X with terms := 0, st := 6 }, true) := by
          simp [stepS, innerF, h5, hl, hb]
        rw [stop_go (by rw [e]), e]
        exact Via.ret ⟨rfl, rfl, rfl, rfl, rfl⟩
      · rw [if_neg hb]
        refine Via.err (stop_no ?_)
        simp [stepS, innerF, h5, hl, hb]
  | succ n ih =>
    intro s X h5 hl hn
    cases s with
    | nil => exact Via.err (stop_nil (by omega))
    | cons b r =>
      unfold pWhile
      by_cases hs : smallB b.toNat = true
      · rw [if_pos hs]
        have e : stepS X b = ({ X with letters := X.letters + 1 }, true) := by
          simp [stepS, innerF, h5, hs]
          omega
        rw [stop_go (by rw [e]), e]
        exact ih r { X with letters := X.letters + 1 } h5 (by simp; omega) (by omega)
      · rw [if_neg hs]
        unfold pByte
        simp only
        by_cases hb : ((b.toNat : Int) == 40) = true
        · rw [if_pos hb]
          have e : stepS X b = ({ X with terms := 0, st := 6 }, true) := by
            simp [stepS, innerF, h5, hs, hb]
          rw [stop_go (by rw [e]), e]
          exact Via.ret ⟨rfl, rfl, rfl, rfl, rfl⟩
        · rw [if_neg hb]
          refine Via.err (stop_no ?_)
          simp [stepS, innerF, h5, hs, hb]
/- The scanner goes as the reader goes. -/

theorem bnd_assoc {α β γ : Type} (a : Rd α) (f : α → Tx → Rd β) (g : β → Tx → Rd γ) : (a.bnd f).bnd g = a.bnd fun x r => (f x r).bnd g := by cases a <;> rfl
theorem digit_iff {c : Int} : digitB c = true ↔ (nineB c = true ∨ (c == 48) = true) := by
  simp [digitB, nineB]; omega
theorem large_not_nine {c : Int} (h : largeB c = true) : nineB c = false := by
  simp [largeB, nineB] at *; omega
theorem seven_eight {X : Scan} {s : Tx} (h7 : X.st = 7) (h : ∀ b r, s = b :: r → digitB b.toNat = true → ¬ X.digits < 3) : stop X s = stop { X with st := 8 } s := by
  cases s with
  | nil => rw [stop_nil (by omega), stop_nil (by simp)]
  | cons b r =>
    have hd := h b r rfl
    have hq : ¬ ((X.st == 7) = true ∧ decide (X.digits < 3) = true ∧ (nineB b.toNat = true ∨ ((b.toNat : Int) == 48) = true)) := by
      rintro ⟨-, q1, q2⟩
      exact hd (digit_iff.2 q2) (by simpa using q1)
    have e1 : stepS X b = if ((b.toNat : Int) == 41) = true then ({ X with lits := if (!X.head) = true then X.lits + 1 else X.lits, st := 9 }, true) else if ((b.toNat : Int) == 44) = true ∧ decide (X.terms < 3) = true then ({ X with st := 6 }, true) else (X, false) := by
      unfold stepS innerF
      rw [if_pos (by simp [h7]), if_neg (by simp [h7]), if_neg (by simp [h7]), if_neg hq]
    have e2 : stepS { X with st := 8 } b = if ((b.toNat : Int) == 41) = true then ({ X with lits := if (!X.head) = true then X.lits + 1 else X.lits, st := 9 }, true) else if ((b.toNat : Int) == 44) = true ∧ decide (X.terms < 3) = true then ({ X with st := 6 }, true) else ({ X with st := 8 }, false) := by
      unfold stepS innerF
      rw [if_pos (by simp), if_neg (by simp), if_neg (by simp), if_neg (by simp)]
    unfold stop
    rw [e1, e2]
    by_cases h1 : ((b.toNat : Int) == 41) = true
    · rw [if_pos h1, if_pos h1]
    · rw [if_neg h1, if_neg h1]
      by_cases h2 : ((b.toNat : Int) == 44) = true ∧ decide (X.terms < 3) = true
      · rw [if_pos h2, if_pos h2]
      · rw [if_neg h2, if_neg h2]; rfl

theorem via_digits : ∀ (n : Nat) (s : Tx) (X : Scan), X.st = 7 → X.digits = 3 - (n : Int) → ∃ X', X'.st = 8 ∧ X'.terms = X.terms ∧ same3 X X' ∧ stop X s = stop X' (pWhile digitB n s).2 := by
  intro n
  induction n with
  | zero =>
    intro s X h7 hd
    exact ⟨{ X with st := 8 }, rfl, rfl, ⟨rfl, rfl, rfl⟩, seven_eight h7 (fun _ _ _ _ => by omega)⟩
  | succ n ih =>
    intro s X h7 hd
    cases s with
    | nil => exact ⟨{ X with st := 8 }, rfl, rfl, ⟨rfl, rfl, rfl⟩, seven_eight h7 (fun _ _ h _ => by cases h)⟩
    | cons b r =>
      unfold pWhile
      by_cases hb : digitB b.toNat = true
      · rw [if_pos hb]
        have e : stepS X b = ({ X with digits := X.digits + 1 }, true) := by
          have := digit_iff.1 hb
          unfold stepS innerF
          rw [if_pos (by simp [h7]), if_neg (by simp [h7]), if_neg (by simp [h7]), if_pos ⟨by simp [h7], by simp; omega, this⟩]
        rw [stop_go (by rw [e]), e]
        obtain ⟨X', h1, h2, h3, h4⟩ := ih r { X with digits := X.digits + 1 } h7 (by simp; omega)
        exact ⟨X', h1, h2, h3, h4⟩
      · rw [if_neg hb]
        exact ⟨{ X with st := 8 }, rfl, rfl, ⟨rfl, rfl, rfl⟩, seven_eight h7 (fun c q h hc => by cases h; exact absurd hc hb)⟩

theorem via_term (s : Tx) (X : Scan) (h6 : X.st = 6) : Via (fun X' => X'.st = 8 ∧ X'.terms = X.terms + 1 ∧ same3 X X') (pTerm s) (stop X s) := by
  cases s with
  | nil => exact Via.err (stop_nil (by omega))
  | cons b r =>
    unfold pTerm
    by_cases hl : largeB b.toNat = true
    · simp only [hl, if_true]
      have e : stepS X b = ({ X with terms := X.terms + 1, digits := 1, st := 8 }, true) := by
        simp [stepS, innerF, h6, hl, large_not_nine hl]
      rw [stop_go (by rw [e]), e]
      exact Via.ret ⟨rfl, rfl, rfl, rfl, rfl⟩
    · simp only [hl]
      by_cases hz : ((b.toNat : Int) == 48) = true
      · have hn : nineB b.toNat = false := by simp [nineB] at *; omega
        simp only [hz, if_true]
        have e : stepS X b = ({ X with terms := X.terms + 1, digits := 1, st := 8 }, true) := by
          simp [stepS, innerF, h6, hl, hz, hn]
        rw [stop_go (by rw [e]), e]
        exact Via.ret ⟨rfl, rfl, rfl, rfl, rfl⟩
      · simp only [hz]
        by_cases hn : nineB b.toNat = true
        · simp only [hn, if_true]
          have e : stepS X b = ({ X with terms := X.terms + 1, digits := 1, st := 7 }, true) := by
            simp [stepS, innerF, h6, hn]
          rw [stop_go (by rw [e]), e]
          obtain ⟨X', h1, h2, h3, h4⟩ := via_digits 2 r { X with terms := X.terms + 1, digits := 1, st := 7 } rfl (by simp)
          exact ⟨X', ⟨h1, h2, h3⟩, h4⟩
        · simp only [hn]
          refine Via.err (stop_no ?_)
          simp [stepS, innerF, h6, hl, hz, hn]

def Done (it li : Int) (hd : Bool) (X : Scan) : Prop := X.st = 9 ∧ X.items = it ∧ X.head = hd ∧ X.lits = if hd = true then li else li + 1

theorem via_close {β : Type} (s : Tx) (X : Scan) (k : β) (h8 : X.st = 8) (h : ∀ b r, s = b :: r → ((b.toNat : Int) == 44) = true → ¬ X.terms < 3) :
    Via (Done X.items X.lits X.head) ((pByte 41 s).bnd fun _ r => .got k r) (stop X s) := by
  cases s with
  | nil => exact Via.err (stop_nil (by omega))
  | cons b r =>
    unfold pByte
    have hh := h b r rfl
    by_cases hb : ((b.toNat : Int) == 41) = true
    · simp only [hb, if_true]
      have e : stepS X b = ({ X with lits := if (!X.head) = true then X.lits + 1 else X.lits, st := 9 }, true) := by
        simp [stepS, innerF, h8, hb]
      rw [stop_go (by rw [e]), e]
      refine Via.ret ⟨rfl, rfl, rfl, ?_⟩
      cases X.head <;> simp
    · simp only [hb]
      refine Via.err (stop_no ?_)
      simp [stepS, innerF, h8, hb]
      rw [if_neg]
      rintro ⟨h1, h2⟩
      have := hh (by simpa using h1)
      omega

theorem via_args {β : Type} : ∀ (n : Nat) (s : Tx) (X : Scan) (k : List Tx → β), X.st = 8 → X.terms = 3 - (n : Int) →
    Via (Done X.items X.lits X.head) ((pMore pTerm n s).bnd fun ts r => (pByte 41 r).bnd fun _ r => .got (k ts) r) (stop X s) := by
  intro n
  induction n with
  | zero =>
    intro s X k h8 ht
    exact via_close s X (k []) h8 (fun _ _ _ _ => by omega)
  | succ n ih =>
    intro s X k h8 ht
    cases s with
    | nil => exact Via.err (stop_nil (by omega))
    | cons b r =>
      unfold pMore
      by_cases hb : ((b.toNat : Int) == 44) = true
      · simp only [hb, if_true]
        have e : stepS X b = ({ X with st := 6 }, true) := by
          have : ¬ ((b.toNat : Int) == 41) = true := by simp at *; omega
          simp [stepS, innerF, h8, hb, this]
          omega
        rw [stop_go (by rw [e]), e, bnd_assoc]
        refine Via.bind (via_term r { X with st := 6 } rfl) ?_
        rintro x r1 X' ⟨h1, h2, h3, h4, h5⟩
        rw [bnd_assoc]
        have := ih r1 X' (fun ts => k (x :: ts)) h1 (by simp at h2; omega)
        rw [h3, h4, h5] at this
        exact this
      · simp only [hb]
        exact via_close (b :: r) X (k []) h8 (fun c q h hc => by cases h; exact absurd hc hb)

theorem via_atom (nt : Bool) (b : UInt8) (r : Tx) (X : Scan) (it li : Int) (hd : Bool) (hs : smallB b.toNat = true → ∃ X1, stepS X b = (X1, true) ∧ X1.st = 5 ∧ X1.letters = 1 ∧ X1.items = it ∧ X1.lits = li ∧ X1.head = hd)
    (hn : smallB b.toNat = false → (stepS X b).2 = false) : Via (Done it li hd) (pAtom nt (b :: r)) (stop X (b :: r)) := by
  unfold pAtom pName
  by_cases hb : smallB b.toNat = true
  · obtain ⟨X1, e, h1, h2, h3, h4, h5⟩ := hs hb
    rw [stop_go (by rw [e]), e]
    have e6 : pWhile smallB 6 (b :: r) = (b :: (pWhile smallB 5 r).1, (pWhile smallB 5 r).2) := by rw [pWhile, if_pos hb]
    rw [e6]
    simp only [reduceCtorEq, if_false, Rd.bnd]
    refine Via.bind (via_name 5 r X1 h1 (by omega) (by omega)) ?_
    rintro _ r1 X' ⟨g1, g2, g3, g4, g5⟩
    unfold pArgs
    refine Via.bind (via_term r1 X' g1) ?_
    rintro t r2 X2 ⟨q1, q2, q3, q4, q5⟩
    have := via_args 2 r2 X2 (fun ts => ({ nt := nt, pred := b :: (pWhile smallB 5 r).1, terms := t :: ts } : RAtom)) q1 (by omega)
    rw [q3, g3, h3, q4, g4, h4, q5, g5, h5] at this
    exact this
  · have hb' : smallB b.toNat = false := by simpa using hb
    have e6 : pWhile smallB 6 (b :: r) = ([], b :: r) := by rw [pWhile, if_neg hb]
    rw [e6]
    simp only [if_true, Rd.bnd]
    exact Via.err (stop_no (hn hb'))

theorem via_lit (s : Tx) (X : Scan) (h3 : X.st = 3) : Via (Done X.items X.lits X.head) (pLit s) (stop X s) := by
  cases s with
  | nil => exact Via.err (stop_nil (by omega))
  | cons b r =>
    unfold pLit
    by_cases hb : ((b.toNat : Int) == 33) = true
    · simp only [hb, if_true]
      have e : stepS X b = ({ X with letters := 1, st := 4 }, true) := by simp [stepS, outerF, h3, hb]
      rw [stop_go (by rw [e]), e]
      cases r with
      | nil =>
        refine Via.err (stop_nil (by simp))
      | cons c q =>
        refine via_atom true c q _ _ _ _ (fun hs => ⟨{ X with letters := 1, st := 5 }, ?_, rfl, rfl, rfl, rfl, rfl⟩) (fun hs => ?_)
        · simp [stepS, outerF, hs]
        · simp [stepS, outerF, hs]
    · simp only [hb]
      refine via_atom false b r _ _ _ _ (fun hs => ⟨{ X with letters := 1, st := 5 }, ?_, rfl, rfl, rfl, rfl, rfl⟩) (fun hs => ?_)
      · simp [stepS, outerF, h3, hb, hs]
      · simp [stepS, outerF, h3, hb, hs]

def Next (it : Int) (X : Scan) : Prop := X.st = 0 ∧ X.items = it + 1

theorem via_dot {β : Type} (s : Tx) (X : Scan) (k : β) (h9 : X.st = 9) (hh : X.head = false) (h : ∀ b r, s = b :: r → ((b.toNat : Int) == 44) = true → ¬ X.lits < 5) :
    Via (Next X.items) ((pByte 46 s).bnd fun _ r => .got k r) (stop X s) := by
  cases s with
  | nil => exact Via.err (stop_nil (by omega))
  | cons b r =>
    unfold pByte
    have hq := h b r rfl
    by_cases hb : ((b.toNat : Int) == 46) = true
    · simp only [hb, if_true]
      have e : stepS X b = ({ X with items := X.items + 1, st := 0 }, true) := by simp [stepS, outerF, h9, hb]
      rw [stop_go (by rw [e]), e]
      exact Via.ret ⟨rfl, rfl⟩
    · simp only [hb]
      refine Via.err (stop_no ?_)
      simp [stepS, outerF, h9, hb, hh]
      rw [if_neg]
      rintro ⟨h1, h2⟩
      have := hq (by simpa using h1)
      omega

theorem via_lits {β : Type} : ∀ (n : Nat) (s : Tx) (X : Scan) (k : List RAtom → β), X.st = 9 → X.head = false → X.lits = 5 - (n : Int) →
    Via (Next X.items) ((pMore pLit n s).bnd fun ts r => (pByte 46 r).bnd fun _ r => .got (k ts) r) (stop X s) := by
  intro n
  induction n with
  | zero =>
    intro s X k h9 hh ht
    exact via_dot s X (k []) h9 hh (fun _ _ _ _ => by omega)
  | succ n ih =>
    intro s X k h9 hh ht
    cases s with
    | nil => exact Via.err (stop_nil (by omega))
    | cons b r =>
      unfold pMore
      by_cases hb : ((b.toNat : Int) == 44) = true
      · simp only [hb, if_true]
        have e : stepS X b = ({ X with st := 3 }, true) := by
          have h1 : ¬ ((b.toNat : Int) == 46) = true := by simp at *; omega
          simp [stepS, outerF, h9, hb, h1, hh]
          omega
        rw [stop_go (by rw [e]), e, bnd_assoc]
        refine Via.bind (via_lit r { X with st := 3 } rfl) ?_
        rintro x r1 X' ⟨h1, h2, h3, h4⟩
        rw [bnd_assoc]
        have := ih r1 X' (fun ts => k (x :: ts)) h1 (by rw [h3]; exact hh) (by simp [hh] at h4; omega)
        rw [h2] at this
        exact this
      · simp only [hb]
        exact via_dot (b :: r) X (k []) h9 hh (fun c q h hc => by cases h; exact absurd hc hb)

theorem via_body (h : RAtom) (s : Tx) (X : Scan) (h3 : X.st = 3) (hh : X.head = false) (hl : X.lits = 0) : Via (Next X.items) (pBody h s) (stop X s) := by
  unfold pBody
  refine Via.bind (via_lit s X h3) ?_
  rintro x r X' ⟨h1, h2, h4, h5⟩
  have := via_lits 4 r X' (fun ls => ({ out := false, head := h, body := x :: ls } : RItem)) h1 (by rw [h4]; exact hh) (by simp [hh, hl] at h5; omega)
  rw [h2] at this
  exact this

theorem via_tail (h : RAtom) (s : Tx) (X : Scan) (h9 : X.st = 9) (hh : X.head = true) (hl : X.lits = 0) : Via (Next X.items) (pTail h s) (stop X s) := by
  cases s with
  | nil => exact Via.err (stop_nil (by omega))
  | cons b r =>
    unfold pTail
    by_cases hb : ((b.toNat : Int) == 46) = true
    · simp only [hb, if_true]
      have e : stepS X b = ({ X with items := X.items + 1, st := 0 }, true) := by simp [stepS, outerF, h9, hb]
      rw [stop_go (by rw [e]), e]
      exact Via.ret ⟨rfl, rfl⟩
    · simp only [hb]
      unfold pByte
      by_cases hc : ((b.toNat : Int) == 58) = true
      · simp only [hc, if_true]
        have e : stepS X b = ({ X with st := 10 }, true) := by simp [stepS, outerF, h9, hb, hc, hh]
        rw [stop_go (by rw [e]), e]
        cases r with
        | nil => exact Via.err (stop_nil (by simp))
        | cons c q =>
          by_cases hd : ((c.toNat : Int) == 45) = true
          · simp only [hd, if_true, Rd.bnd]
            have e : stepS { X with st := 10 } c = ({ X with head := false, st := 3 }, true) := by simp [stepS, outerF, hd]
            simp only [Bool.false_eq_true, if_false]
            rw [stop_go (by rw [e]), e]
            exact via_body h q { X with head := false, st := 3 } rfl rfl hl
          · simp only [hd, Rd.bnd]
            refine Via.err (stop_no ?_)
            simp [stepS, outerF, hd]
      · simp only [hc]
        refine Via.err (stop_no ?_)
        simp [stepS, outerF, h9, hb, hc, hh]

theorem via_oname : ∀ (n : Nat) (s : Tx) (X : Scan) (k : Tx → RItem), X.st = 2 → X.letters = 6 - (n : Int) →
    Via (Next X.items) ((pByte 46 (pWhile smallB n s).2).bnd fun _ r => .got (k (pWhile smallB n s).1) r) (stop X s) := by
  intro n
  induction n with
  | zero =>
    intro s X k h2 hl
    cases s with
    | nil => exact Via.err (stop_nil (by omega))
    | cons b r =>
      unfold pWhile pByte
      by_cases hb : ((b.toNat : Int) == 46) = true
      · simp only [hb, if_true]
        have e : stepS X b = ({ X with items := X.items + 1, st := 0 }, true) := by simp [stepS, outerF, h2, hl, hb]
        rw [stop_go (by rw [e]), e]
        exact Via.ret ⟨rfl, rfl⟩
      · simp only [hb]
        refine Via.err (stop_no ?_)
        simp [stepS, outerF, h2, hl, hb]
  | succ n ih =>
    intro s X k h2 hl
    cases s with
    | nil => exact Via.err (stop_nil (by omega))
    | cons b r =>
      unfold pWhile
      by_cases hs : smallB b.toNat = true
      · simp only [hs, if_true]
        have e : stepS X b = ({ X with letters := X.letters + 1, st := 2 }, true) := by
          simp [stepS, outerF, h2, hs]; omega
        rw [stop_go (by rw [e]), e]
        exact ih r { X with letters := X.letters + 1, st := 2 } (fun x => k (b :: x)) rfl (by simp; omega)
      · simp only [hs]
        unfold pByte
        by_cases hb : ((b.toNat : Int) == 46) = true
        · simp only [Bool.false_eq_true, if_false, hb, if_true]
          have e : stepS X b = ({ X with items := X.items + 1, st := 0 }, true) := by simp [stepS, outerF, h2, hs, hb]
          rw [stop_go (by rw [e]), e]
          exact Via.ret ⟨rfl, rfl⟩
        · simp only [Bool.false_eq_true, if_false, hb]
          refine Via.err (stop_no ?_)
          simp [stepS, outerF, h2, hs, hb]

theorem via_item (b : UInt8) (r : Tx) (X : Scan) (h0 : X.st = 0) (hi : X.items ≠ 16) : Via (Next X.items) (pItem (b :: r)) (stop X (b :: r)) := by
  unfold pItem
  by_cases hb : ((b.toNat : Int) == 63) = true
  · simp only [hb, if_true]
    have e : stepS X b = ({ X with head := true, letters := 0, lits := 0, st := 1 }, true) := by simp [stepS, outerF, h0, hi, hb]
    rw [stop_go (by rw [e]), e]
    unfold pOut pName
    cases r with
    | nil => exact Via.err (stop_nil (by simp))
    | cons c q =>
      by_cases hs : smallB c.toNat = true
      · have e6 : pWhile smallB 6 (c :: q) = (c :: (pWhile smallB 5 q).1, (pWhile smallB 5 q).2) := by rw [pWhile, if_pos hs]
        rw [e6]
        simp only [reduceCtorEq, if_false, Rd.bnd]
        have e : stepS { X with head := true, letters := 0, lits := 0, st := 1 } c = ({ X with head := true, letters := 1, lits := 0, st := 2 }, true) := by simp [stepS, outerF, hs]
        rw [stop_go (by rw [e]), e]
        exact via_oname 5 q { X with head := true, letters := 1, lits := 0, st := 2 } (fun x => { out := true, head := { nt := false, pred := c :: x, terms := [] }, body := [] }) rfl (by simp)
      · have e6 : pWhile smallB 6 (c :: q) = ([], c :: q) := by rw [pWhile, if_neg hs]
        rw [e6]
        simp only [if_true, Rd.bnd]
        refine Via.err (stop_no ?_)
        simp [stepS, outerF, hs]
  · simp only [hb]
    unfold pRule
    refine Via.bind (via_atom false b r X X.items 0 true (fun hs => ⟨{ X with head := true, letters := 1, lits := 0, st := 5 }, ?_, rfl, rfl, rfl, rfl, rfl⟩) (fun hs => ?_)) ?_
    · simp [stepS, outerF, h0, hi, hb, hs]
    · simp [stepS, outerF, h0, hi, hb, hs]
    · rintro x r X' ⟨h1, h2, h3, h4⟩
      have := via_tail x r X' h1 h3 (by simpa using h4)
      rw [h2] at this
      exact this

theorem via_items : ∀ (n : Nat) (s : Tx) (X : Scan), X.st = 0 → X.items = 16 - (n : Int) → stop X s = match pItems n s with | .bad e => some e | .got _ _ => none := by
  intro n
  induction n with
  | zero =>
    intro s X h0 hi
    cases s with
    | nil => simp [stop, pItems, h0]
    | cons b r =>
      simp only [pItems]
      refine stop_no ?_
      simp [stepS, outerF, h0, hi]
  | succ n ih =>
    intro s X h0 hi
    cases s with
    | nil => simp [stop, pItems, h0]
    | cons b r =>
      have hv := via_item b r X h0 (by omega)
      unfold pItems
      cases hp : pItem (b :: r) with
      | bad e => rw [hp] at hv; exact hv
      | got x q =>
        rw [hp] at hv
        obtain ⟨X', ⟨h1, h2⟩, h3⟩ := hv
        rw [h3, ih q X' h1 (by omega)]
        simp only [Rd.bnd]
        cases pItems n q <;> rfl

theorem placeL_parse (s : Tx) : placeL s = match pItems 16 s with | .bad e => ((s.length - e.length : Nat) : Int) | .got _ _ => -1 := by
  rw [placeL_stop, via_items 16 s scan0 rfl rfl]
  cases pItems 16 s <;> rfl
/- What the reader read is what the document's cuts make of the text. -/

theorem byte_eq {b : UInt8} (c : UInt8) (h : ((b.toNat : Int) == (c.toNat : Int)) = true) : b = c := by
  have : b.toNat = c.toNat := by simp at h; omega
  exact UInt8.toNat_inj.1 this

/-! ### Words that are well made, and their texts -/
def WName (p : Tx) : Prop := p ≠ [] ∧ ∀ b ∈ p, smallB b.toNat = true
def WTerm (t : Tx) : Prop := t ≠ [] ∧ ∀ b ∈ t, largeB b.toNat = true ∨ digitB b.toNat = true
def WAtom (a : RAtom) : Prop := WName a.pred ∧ a.terms ≠ [] ∧ a.terms.length ≤ 3 ∧ ∀ t ∈ a.terms, WTerm t
def WItem (x : RItem) : Prop := WName x.head.pred ∧ (x.out = true → x.head.nt = false ∧ x.head.terms = [] ∧ x.body = []) ∧ (x.out = false → WAtom x.head ∧ x.head.nt = false ∧ x.body.length ≤ 5 ∧ ∀ a ∈ x.body, WAtom a)
def uMore (ts : List Tx) : Tx := ts.flatMap fun t => 44 :: t
def uList : List Tx → Tx
  | [] => []
  | t :: ts => t ++ uMore ts
def uAtom (a : RAtom) : Tx := a.pred ++ 40 :: (uList a.terms ++ [41])
def uLit (a : RAtom) : Tx := (if a.nt = true then [33] else []) ++ uAtom a
def uRule (x : RItem) : Tx := uAtom x.head ++ (if x.body = [] then [] else 58 :: 45 :: uList (x.body.map uLit))
def uItem (x : RItem) : Tx := if x.out = true then 63 :: x.head.pred else uRule x

theorem bnd_got {α β : Type} {a : Rd α} {f : α → Tx → Rd β} {y : β} {r : Tx} (h : a.bnd f = .got y r) : ∃ x q, a = .got x q ∧ f x q = .got y r := by
  cases a with
  | bad e => cases h
  | got x q => exact ⟨x, q, rfl, h⟩
theorem pByte_got {c : UInt8} {s r : Tx} {x : Unit} (h : pByte c.toNat s = .got x r) : s = c :: r := by
  cases s with
  | nil => cases h
  | cons b q =>
    unfold pByte at h
    dsimp only at h
    split at h
    · rename_i hb
      cases h
      rw [byte_eq c hb]
    · cases h
theorem pWhile_took (p : Int → Bool) : ∀ (n : Nat) (s : Tx), s = (pWhile p n s).1 ++ (pWhile p n s).2 ∧ (∀ b ∈ (pWhile p n s).1, p b.toNat = true)
  | 0, s => by simp [pWhile]
  | n + 1, [] => by simp [pWhile]
  | n + 1, b :: r => by
    unfold pWhile
    split
    · rename_i h
      obtain ⟨h1, h2⟩ := pWhile_took p n r
      refine ⟨by simp; exact h1, ?_⟩
      intro c hc
      rcases List.mem_cons.1 hc with rfl | hc
      · exact h
      · exact h2 c hc
    · simp
theorem pName_took {s r p : Tx} (h : pName s = .got p r) : s = p ++ r ∧ WName p := by
  unfold pName at h
  split at h
  · cases h
  · rename_i hne
    cases h
    exact ⟨(pWhile_took smallB 6 s).1, hne, (pWhile_took smallB 6 s).2⟩
theorem pTerm_took {s r t : Tx} (h : pTerm s = .got t r) : s = t ++ r ∧ WTerm t := by
  cases s with
  | nil => cases h
  | cons b q =>
    unfold pTerm at h
    dsimp only at h
    split at h
    · rename_i hl; cases h; exact ⟨rfl, by simp, by simp [hl]⟩
    · split at h
      · rename_i hz; cases h
        refine ⟨rfl, by simp, ?_⟩
        intro c hc
        simp at hc
        subst hc
        right
        simp [digitB] at *
        omega
      · split at h
        · rename_i hn
          cases h
          obtain ⟨h1, h2⟩ := pWhile_took digitB 2 q
          refine ⟨by simp; exact h1, by simp, ?_⟩
          intro c hc
          rcases List.mem_cons.1 hc with rfl | hc
          · right; exact digit_iff.2 (.inl hn)
          · right; exact h2 c hc
        · cases h
theorem pMore_took {α : Type} {W : α → Prop} {u : α → Tx} {f : Tx → Rd α} (hf : ∀ s x r, f s = .got x r → s = u x ++ r ∧ W x) : ∀ (n : Nat) (s : Tx) (xs : List α) (r : Tx), pMore f n s = .got xs r →
    s = uMore (xs.map u) ++ r ∧ xs.length ≤ n ∧ ∀ x ∈ xs, W x := by
  intro n
  induction n with
  | zero => intro s xs r h; cases h; simp [uMore]
  | succ n ih =>
    intro s xs r h
    cases s with
    | nil => cases h; simp [uMore]
    | cons b q =>
      unfold pMore at h
      split at h
      · rename_i hb
        obtain ⟨x, q1, h1, h2⟩ := bnd_got h
        obtain ⟨ys, q2, h3, h4⟩ := bnd_got h2
        cases h4
        obtain ⟨g1, g2⟩ := hf _ _ _ h1
        obtain ⟨g3, g4, g5⟩ := ih _ _ _ h3
        refine ⟨?_, by simp; omega, ?_⟩
        · rw [byte_eq 44 hb, g1, g3]; simp [uMore]
        · intro y hy
          rcases List.mem_cons.1 hy with rfl | hy
          · exact g2
          · exact g5 y hy
      · cases h; simp [uMore]
theorem pAtom_took {nt : Bool} {s r : Tx} {a : RAtom} (h : pAtom nt s = .got a r) : s = uAtom a ++ r ∧ WAtom a ∧ a.nt = nt := by
  unfold pAtom pArgs at h
  obtain ⟨p, q1, h1, h⟩ := bnd_got h
  obtain ⟨_, q2, h2, h⟩ := bnd_got h
  obtain ⟨t, q3, h3, h⟩ := bnd_got h
  obtain ⟨ts, q4, h4, h⟩ := bnd_got h
  obtain ⟨_, q5, h5, h⟩ := bnd_got h
  cases h
  obtain ⟨a1, a2⟩ := pName_took h1
  have a3 := pByte_got (c := 40) h2
  obtain ⟨a4, a5⟩ := pTerm_took h3
  obtain ⟨a6, a7, a8⟩ := pMore_took (u := id) (fun s x r h => pTerm_took h) _ _ _ _ h4
  have a9 := pByte_got (c := 41) h5
  refine ⟨?_, ⟨a2, by simp, by simp; omega, ?_⟩, rfl⟩
  · rw [a1, a3, a4, a6, a9]; simp [uAtom, uList]
  · intro y hy
    rcases List.mem_cons.1 hy with rfl | hy
    · exact a5
    · exact a8 y hy
theorem pLit_took {s r : Tx} {a : RAtom} (h : pLit s = .got a r) : s = uLit a ++ r ∧ WAtom a := by
  cases s with
  | nil => cases h
  | cons b q =>
    unfold pLit at h
    dsimp only at h
    split at h
    · rename_i hb
      obtain ⟨h1, h2, h3⟩ := pAtom_took h
      exact ⟨by rw [byte_eq 33 hb, h1]; simp [uLit, h3], h2⟩
    · obtain ⟨h1, h2, h3⟩ := pAtom_took h
      exact ⟨by rw [h1]; simp [uLit, h3], h2⟩
theorem pItem_took {s r : Tx} {x : RItem} (h : pItem s = .got x r) : s = uItem x ++ 46 :: r ∧ WItem x := by
  cases s with
  | nil => cases h
  | cons b q =>
    unfold pItem at h
    dsimp only at h
    split at h
    · rename_i hb
      unfold pOut at h
      obtain ⟨p, q1, h1, h⟩ := bnd_got h
      obtain ⟨_, q2, h2, h⟩ := bnd_got h
      cases h
      obtain ⟨a1, a2⟩ := pName_took h1
      have a3 := pByte_got (c := 46) h2
      exact ⟨by rw [byte_eq 63 hb, a1, a3]; simp [uItem], a2, by simp, by simp⟩
    · unfold pRule at h
      obtain ⟨hd, q1, h1, h⟩ := bnd_got h
      obtain ⟨a1, a2, a3⟩ := pAtom_took h1
      cases q1 with
      | nil => cases h
      | cons c q2 =>
        unfold pTail at h
        dsimp only at h
        split at h
        · rename_i hc
          cases h
          exact ⟨by rw [a1, byte_eq 46 hc]; simp [uItem, uRule], a2.1, by simp, fun _ => ⟨a2, a3, by simp, by simp⟩⟩
        · unfold pBody at h
          obtain ⟨_, q3, h2, h⟩ := bnd_got h
          obtain ⟨_, q4, h3, h⟩ := bnd_got h
          obtain ⟨l, q5, h4, h⟩ := bnd_got h
          obtain ⟨ls, q6, h5, h⟩ := bnd_got h
          obtain ⟨_, q7, h6, h⟩ := bnd_got h
          cases h
          have b1 := pByte_got (c := 58) h2
          have b2 := pByte_got (c := 45) h3
          obtain ⟨b3, b4⟩ := pLit_took h4
          obtain ⟨b5, b6, b7⟩ := pMore_took (fun s x r h => pLit_took h) _ _ _ _ h5
          have b8 := pByte_got (c := 46) h6
          refine ⟨by rw [a1, b1, b2, b3, b5, b8]; simp [uItem, uRule, uList], a2.1, by simp, fun _ => ⟨a2, a3, by simp; omega, ?_⟩⟩
          intro y hy
          rcases List.mem_cons.1 hy with rfl | hy
          · exact b4
          · exact b7 y hy
def uItems (l : List RItem) : Tx := l.flatMap fun x => uItem x ++ [46]
theorem pItems_took : ∀ (n : Nat) (s : Tx) (l : List RItem) (r : Tx), pItems n s = .got l r → s = uItems l ∧ r = [] ∧ l.length ≤ n ∧ ∀ x ∈ l, WItem x := by
  intro n
  induction n with
  | zero =>
    intro s l r h
    cases s with
    | nil => cases h; simp [uItems]
    | cons b q => cases h
  | succ n ih =>
    intro s l r h
    cases s with
    | nil => cases h; simp [uItems]
    | cons b q =>
      unfold pItems at h
      obtain ⟨x, q1, h1, h⟩ := bnd_got h
      obtain ⟨xs, q2, h2, h⟩ := bnd_got h
      cases h
      obtain ⟨a1, a2⟩ := pItem_took h1
      obtain ⟨b1, b2, b3, b4⟩ := ih _ _ _ h2
      refine ⟨by rw [a1, b1]; simp [uItems], b2, by simp; omega, ?_⟩
      intro y hy
      rcases List.mem_cons.1 hy with rfl | hy
      · exact a2
      · exact b4 y hy
/- The cuts of a text that is well made. -/

theorem small_rng {b : UInt8} (h : smallB b.toNat = true) : 97 ≤ b.toNat ∧ b.toNat ≤ 122 := by simp [smallB] at h; omega
theorem term_rng {b : UInt8} (h : largeB b.toNat = true ∨ digitB b.toNat = true) : 48 ≤ b.toNat ∧ b.toNat ≤ 90 ∧ b.toNat ≠ 58 := by
  simp [largeB, digitB] at h; omega

theorem cut_plain {c : Int} : ∀ (p r : Tx) (d : Bool) (cur : Tx), (∀ b ∈ p, b.toNat ≠ 40 ∧ b.toNat ≠ 41 ∧ (b.toNat : Int) ≠ c) → cutAux c (p ++ r) d cur = cutAux c r d (cur ++ p) := by
  intro p
  induction p with
  | nil => intro r d cur _; simp
  | cons b p ih =>
    intro r d cur h
    obtain ⟨h1, h2, h3⟩ := h b (List.mem_cons_self ..)
    rw [List.cons_append, cutAux]
    have e1 : ((b.toNat : Int) == 40) = false := by simp; omega
    have e2 : ((b.toNat : Int) == 41) = false := by simp; omega
    have e3 : ((b.toNat : Int) == c) = false := by simp; omega
    simp only [e1, e2, e3, Bool.false_eq_true, if_false, false_and]
    rw [ih r d (cur ++ [b]) (fun x hx => h x (List.mem_cons_of_mem _ hx))]
    simp
theorem cut_deep {c : Int} : ∀ (p r : Tx) (cur : Tx), (∀ b ∈ p, b.toNat ≠ 41) → cutAux c (p ++ r) true cur = cutAux c r true (cur ++ p) := by
  intro p
  induction p with
  | nil => intro r cur _; simp
  | cons b p ih =>
    intro r cur h
    have h2 := h b (List.mem_cons_self ..)
    rw [List.cons_append, cutAux]
    have e2 : ((b.toNat : Int) == 41) = false := by simp; omega
    simp only [e2, Bool.false_eq_true, if_false, ite_self, reduceCtorEq, and_false]
    rw [ih r (cur ++ [b]) (fun x hx => h x (List.mem_cons_of_mem _ hx))]
    simp
theorem cut_open {c : Int} (r : Tx) (d : Bool) (cur : Tx) : cutAux c (40 :: r) d cur = cutAux c r true (cur ++ [40]) := by
  rw [cutAux]; simp
theorem cut_close {c : Int} (hc : c ≠ 41) (r : Tx) (d : Bool) (cur : Tx) : cutAux c (41 :: r) d cur = cutAux c r false (cur ++ [41]) := by
  rw [cutAux]; simp; intro h; exact absurd h.symm hc
theorem cut_at {c : UInt8} (h1 : c.toNat ≠ 40) (h2 : c.toNat ≠ 41) (r cur : Tx) : cutAux c.toNat (c :: r) false cur = cur :: cutAux c.toNat r false [] := by
  rw [cutAux]
  have e1 : ((c.toNat : Int) == 40) = false := by simp; omega
  have e2 : ((c.toNat : Int) == 41) = false := by simp; omega
  simp [e1, e2]

def Solid (c : Int) (t : Tx) : Prop := t ≠ [] ∧ ∀ r cur, cutAux c (t ++ r) false cur = cutAux c r false (cur ++ t)
theorem cut_more : ∀ (ts : List Tx) (cur : Tx), (∀ t ∈ ts, Solid 44 t) → cur ≠ [] → cutAux 44 (uMore ts) false cur = cur :: ts := by
  intro ts
  induction ts with
  | nil => intro cur _ hc; simp [uMore, cutAux, hc]
  | cons t ts ih =>
    intro cur h hc
    obtain ⟨h1, h2⟩ := h t (List.mem_cons_self ..)
    have e : uMore (t :: ts) = 44 :: (t ++ uMore ts) := by simp [uMore]
    rw [e, show (44 : Int) = ((44 : UInt8).toNat : Int) from rfl, cut_at (by decide) (by decide), show ((44 : UInt8).toNat : Int) = 44 from rfl, h2, List.nil_append, ih t (fun x hx => h x (List.mem_cons_of_mem _ hx)) h1]
theorem cut_list {ts : List Tx} (h : ∀ t ∈ ts, Solid 44 t) : cutL (uList ts) 44 = ts := by
  cases ts with
  | nil => simp [uList, cutL, cutAux]
  | cons t ts =>
    obtain ⟨h1, h2⟩ := h t (List.mem_cons_self ..)
    unfold cutL uList
    rw [h2, List.nil_append, cut_more ts t (fun x hx => h x (List.mem_cons_of_mem _ hx)) h1]

theorem term_solid {t : Tx} (h : WTerm t) : Solid 44 t := by
  refine ⟨h.1, fun r cur => cut_plain _ _ _ _ fun b hb => ?_⟩
  have := term_rng (h.2 b hb)
  omega
theorem mem_uMore {ts : List Tx} {b : UInt8} (h : b ∈ uMore ts) : b = 44 ∨ ∃ t ∈ ts, b ∈ t := by
  unfold uMore at h
  rw [List.mem_flatMap] at h
  obtain ⟨t, ht, hb⟩ := h
  rcases List.mem_cons.1 hb with h | h
  · exact .inl h
  · exact .inr ⟨t, ht, h⟩
theorem mem_uList {ts : List Tx} {b : UInt8} (h : b ∈ uList ts) : b = 44 ∨ ∃ t ∈ ts, b ∈ t := by
  cases ts with
  | nil => cases h
  | cons t ts =>
    unfold uList at h
    rcases List.mem_append.1 h with h | h
    · exact .inr ⟨t, List.mem_cons_self .., h⟩
    · rcases mem_uMore h with h | ⟨u, hu, h⟩
      · exact .inl h
      · exact .inr ⟨u, List.mem_cons_of_mem _ hu, h⟩
theorem args_rng {a : RAtom} (h : WAtom a) {b : UInt8} (hb : b ∈ uList a.terms) : b.toNat = 44 ∨ (48 ≤ b.toNat ∧ b.toNat ≤ 90 ∧ b.toNat ≠ 58) := by
  rcases mem_uList hb with rfl | ⟨t, ht, hb⟩
  · exact .inl rfl
  · exact .inr (term_rng ((h.2.2.2 t ht).2 b hb))

theorem cut_atom {c : Int} (hc : c = 44 ∨ c = 46) {a : RAtom} (h : WAtom a) (r cur : Tx) : cutAux c (uAtom a ++ r) false cur = cutAux c r false (cur ++ uAtom a) := by
  unfold uAtom
  rw [List.append_assoc, cut_plain a.pred _ _ _ (fun b hb => by have := small_rng (h.1.2 b hb); omega), List.cons_append, cut_open, List.append_assoc, cut_deep (uList a.terms) _ _ (fun b hb => by have := args_rng h hb; omega)]
  rw [List.cons_append, List.nil_append, cut_close (by omega)]
  simp
theorem cut_lit {c : Int} (hc : c = 44 ∨ c = 46) {a : RAtom} (h : WAtom a) (r cur : Tx) : cutAux c (uLit a ++ r) false cur = cutAux c r false (cur ++ uLit a) := by
  unfold uLit
  rw [List.append_assoc, cut_plain (if a.nt = true then [33] else []) _ _ _ (fun b hb => by split at hb <;> simp at hb; subst hb; simp; omega), cut_atom hc h]
  simp
theorem uAtom_ne (a : RAtom) : uAtom a ≠ [] := by unfold uAtom; simp
theorem uLit_ne (a : RAtom) : uLit a ≠ [] := by unfold uLit; simp [uAtom_ne]
theorem lit_solid {a : RAtom} (h : WAtom a) : Solid 44 (uLit a) := ⟨uLit_ne a, fun r cur => cut_lit (.inl rfl) h r cur⟩
theorem cut_lits46 : ∀ (l : List RAtom) (r cur : Tx), (∀ a ∈ l, WAtom a) → cutAux 46 (uMore (l.map uLit) ++ r) false cur = cutAux 46 r false (cur ++ uMore (l.map uLit)) := by
  intro l
  induction l with
  | nil => intro r cur _; simp [uMore]
  | cons a l ih =>
    intro r cur h
    have e : uMore ((a :: l).map uLit) = [44] ++ (uLit a ++ uMore (l.map uLit)) := by simp [uMore]
    rw [e, List.append_assoc, cut_plain [44] _ _ _ (fun b hb => by simp at hb; subst hb; decide), List.append_assoc, cut_lit (.inr rfl) (h a (List.mem_cons_self ..)), ih _ _ (fun x hx => h x (List.mem_cons_of_mem _ hx))]
    simp
theorem cut_item {x : RItem} (h : WItem x) (r cur : Tx) : cutAux 46 (uItem x ++ r) false cur = cutAux 46 r false (cur ++ uItem x) := by
  obtain ⟨h1, h2, h3⟩ := h
  unfold uItem
  by_cases ho : x.out = true
  · rw [if_pos ho, cut_plain (63 :: x.head.pred) _ _ _ (fun b hb => by
      rcases List.mem_cons.1 hb with rfl | hb
      · decide
      · have := small_rng (h1.2 b hb); omega)]
  · obtain ⟨w1, w2, w3, w4⟩ := h3 (by simpa using ho)
    rw [if_neg ho]
    unfold uRule
    rw [List.append_assoc, cut_atom (.inr rfl) w1]
    cases hb : x.body with
    | nil => simp
    | cons l ls =>
      rw [hb] at w4
      rw [if_neg (by simp)]
      have e : (58 :: 45 :: uList ((l :: ls).map uLit)) = [58, 45] ++ (uLit l ++ uMore (ls.map uLit)) := by simp [uList]
      rw [e, List.append_assoc, cut_plain [58, 45] _ _ _ (fun b hb => by simp at hb; rcases hb with rfl | rfl <;> decide), List.append_assoc, cut_lit (.inr rfl) (w4 l (List.mem_cons_self ..)), cut_lits46 _ _ _ (fun x hx => w4 x (List.mem_cons_of_mem _ hx))]
      simp
theorem cut_items : ∀ (l : List RItem), (∀ x ∈ l, WItem x) → cutL (uItems l) 46 = l.map uItem := by
  intro l
  induction l with
  | nil => intro _; simp [uItems, cutL, cutAux]
  | cons x l ih =>
    intro h
    have e : uItems (x :: l) = uItem x ++ (46 :: uItems l) := by simp [uItems]
    have hi := ih fun y hy => h y (List.mem_cons_of_mem _ hy)
    unfold cutL at *
    rw [e, cut_item (h x (List.mem_cons_self ..)), show (46 : Int) = ((46 : UInt8).toNat : Int) from rfl, cut_at (by decide) (by decide), show ((46 : UInt8).toNat : Int) = 46 from rfl, hi]
    simp

theorem find_skip {c : Int} : ∀ (p r : Tx), (∀ b ∈ p, (b.toNat : Int) ≠ c) → findN (p ++ r) c = p.length + findN r c := by
  intro p
  induction p with
  | nil => intro r _; simp
  | cons b p ih =>
    intro r h
    have := ih r fun x hx => h x (List.mem_cons_of_mem _ hx)
    unfold findN at *
    have e : ((b.toNat : Int) == c) = false := by simpa using h b (List.mem_cons_self ..)
    rw [List.cons_append, List.findIdx_cons, e]
    simp only [cond_false, List.length_cons]
    omega
theorem find_head {c : UInt8} (r : Tx) : findN (c :: r) c.toNat = 0 := by unfold findN; rw [List.findIdx_cons]; simp
theorem find_nil {c : Int} : findN [] c = 0 := rfl

theorem head_small {p : Tx} (h : WName p) : ∃ b q, p = b :: q ∧ 97 ≤ b.toNat ∧ b.toNat ≤ 122 := by
  obtain ⟨h1, h2⟩ := h
  cases p with
  | nil => exact absurd rfl h1
  | cons b q => exact ⟨b, q, rfl, small_rng (h2 b (List.mem_cons_self ..))⟩
theorem atomU_of {a : RAtom} (h : WAtom a) : atomU a.nt (uAtom a) = a := by
  have hf : findN (uAtom a) 40 = a.pred.length := by
    unfold uAtom
    rw [find_skip a.pred _ (fun b hb => by have := small_rng (h.1.2 b hb); omega), show (40 : Int) = ((40 : UInt8).toNat : Int) from rfl, find_head]
    rfl
  have hl : (uAtom a).length = a.pred.length + 1 + (uList a.terms).length + 1 := by unfold uAtom; simp; omega
  unfold atomU
  rw [hf, if_pos (by omega)]
  have e1 : ((uAtom a).drop 0).take (a.pred.length - 0) = a.pred := by unfold uAtom; simp
  have e2 : ((uAtom a).drop (a.pred.length + 1)).take ((uAtom a).length - 1 - (a.pred.length + 1)) = uList a.terms := by
    rw [hl]
    unfold uAtom
    rw [show a.pred ++ 40 :: (uList a.terms ++ [41]) = (a.pred ++ [40]) ++ (uList a.terms ++ [41]) by simp]
    rw [List.drop_append_of_le_length (by simp), List.drop_of_length_le (by simp), List.nil_append]
    rw [show a.pred.length + 1 + (uList a.terms).length + 1 - 1 - (a.pred.length + 1) = (uList a.terms).length by omega]
    simp
  rw [e1, e2, cut_list (fun t ht => term_solid (h.2.2.2 t ht))]
theorem atomL_of {a : RAtom} (h : WAtom a) : atomL (uLit a) = a := by
  obtain ⟨b, q, hp, h1, h2⟩ := head_small h.1
  have e := atomU_of h
  unfold atomL uLit
  cases hn : a.nt with
  | true =>
    have e1 : bangB ((if true = true then [33] else []) ++ uAtom a) = true := rfl
    have e2 : unbang ((if true = true then [33] else []) ++ uAtom a) = uAtom a := by
      unfold unbang; rw [if_pos e1]; simp
    rw [e1, e2, ← hn, e]
  | false =>
    have e1 : bangB ((if false = true then [33] else []) ++ uAtom a) = false := by
      unfold uAtom; rw [hp]; simp [bangB]; omega
    have e2 : unbang ((if false = true then [33] else []) ++ uAtom a) = uAtom a := by
      unfold unbang; rw [if_neg (by rw [e1]; simp)]; simp
    rw [e1, e2, ← hn, e]
theorem uLit_pos {a : RAtom} (h : a.nt = false) : uLit a = uAtom a := by unfold uLit; simp [h]
theorem no58 {a : RAtom} (h : WAtom a) : ∀ b ∈ uAtom a, (b.toNat : Int) ≠ 58 := by
  intro b hb
  unfold uAtom at hb
  rcases List.mem_append.1 hb with hb | hb
  · have := small_rng (h.1.2 b hb); omega
  · rcases List.mem_cons.1 hb with rfl | hb
    · decide
    · rcases List.mem_append.1 hb with hb | hb
      · have := args_rng h hb; omega
      · simp at hb; subst hb; decide
theorem itemL_of {x : RItem} (h : WItem x) : itemL (uItem x) = x ∧ uItem x ≠ [] ∧ (queryB (uItem x) = false → findN (uItem x) 58 < (uItem x).length → findN (uItem x) 58 + 2 ≤ (uItem x).length) := by
  obtain ⟨h1, h2, h3⟩ := h
  obtain ⟨b, q, hp, k1, k2⟩ := head_small h1
  unfold uItem
  by_cases ho : x.out = true
  · rw [if_pos ho]
    obtain ⟨w1, w2, w3⟩ := h2 ho
    have hq : queryB (63 :: x.head.pred) = true := rfl
    refine ⟨?_, by simp, fun h => by rw [hq] at h; cases h⟩
    unfold itemL
    rw [if_pos hq]
    unfold outL
    obtain ⟨xo, ⟨n, p, t⟩, bd⟩ := x
    simp at *
    simp [*]
  · rw [if_neg ho]
    obtain ⟨w1, w2, w3, w4⟩ := h3 (by simpa using ho)
    have hq : queryB (uRule x) = false := by unfold uRule uAtom; rw [hp]; simp [queryB]; omega
    cases hb : x.body with
    | nil =>
      have e : uRule x = uAtom x.head := by unfold uRule; rw [if_pos hb]; simp
      have hf : findN (uRule x) 58 = (uRule x).length := by
        have := find_skip (uAtom x.head) [] (no58 w1)
        rw [List.append_nil, find_nil] at this
        rw [e]; omega
      refine ⟨?_, by rw [e]; exact uAtom_ne _, fun _ h => by omega⟩
      unfold itemL
      rw [if_neg (by simp [hq])]
      unfold ruleL
      rw [hf, if_neg (by omega)]
      have e2 : ((uRule x).drop 0).take ((uRule x).length - 0) = uLit x.head := by rw [e, uLit_pos w2]; simp
      rw [e2, atomL_of w1]
      obtain ⟨xo, hd, bd⟩ := x
      simp at *
      simp [*]
    | cons l ls =>
      have e : uRule x = uAtom x.head ++ (58 :: 45 :: uList (x.body.map uLit)) := by unfold uRule; rw [if_neg (by rw [hb]; simp)]
      have hf : findN (uRule x) 58 = (uAtom x.head).length := by
        have := find_skip (uAtom x.head) (58 :: 45 :: uList (x.body.map uLit)) (no58 w1)
        rw [e, this, show (58 : Int) = ((58 : UInt8).toNat : Int) from rfl, find_head]
        rfl
      have hl : (uRule x).length = (uAtom x.head).length + 2 + (uList (x.body.map uLit)).length := by rw [e]; simp; omega
      refine ⟨?_, by rw [e]; simp, fun _ _ => by omega⟩
      unfold itemL
      rw [if_neg (by simp [hq])]
      unfold ruleL
      rw [hf, if_pos (by omega)]
      have e2 : ((uRule x).drop 0).take ((uAtom x.head).length - 0) = uLit x.head := by rw [e, uLit_pos w2]; simp
      have e3 : ((uRule x).drop ((uAtom x.head).length + 2)).take ((uRule x).length - ((uAtom x.head).length + 2)) = uList (x.body.map uLit) := by
        rw [hl, e, show uAtom x.head ++ (58 :: 45 :: uList (x.body.map uLit)) = (uAtom x.head ++ [58, 45]) ++ uList (x.body.map uLit) by simp]
        rw [List.drop_append_of_le_length (by simp), List.drop_of_length_le (by simp), List.nil_append]
        exact List.take_of_length_le (by omega)
      rw [e2, e3, atomL_of w1, cut_list (fun t ht => by
        rw [List.mem_map] at ht
        obtain ⟨a, ha, rfl⟩ := ht
        exact lit_solid (w4 a ha))]
      have e4 : (x.body.map uLit).map atomL = x.body := by
        rw [List.map_map]
        conv => rhs; rw [← List.map_id x.body]
        exact List.map_congr_left fun a ha => atomL_of (w4 a ha)
      rw [e4]
      obtain ⟨xo, hd, bd⟩ := x
      simp at *
      simp [*]

theorem parse_good {s : Tx} {l : List RItem} {r : Tx} (hs : s.length ≤ 1000) (h : pItems 16 s = .got l r) : goodText s ∧ itemsL s = l ∧ l.length ≤ 16 ∧ ∀ x ∈ l, WItem x := by
  obtain ⟨h1, h2, h3, h4⟩ := pItems_took _ _ _ _ h
  have hc := cut_items l h4
  refine ⟨⟨?_, ?_⟩, ?_, h3, h4⟩
  · rw [h1, hc]; simpa using h3
  · intro t ht
    have hl := cutL_piece ht
    rw [h1, hc, List.mem_map] at ht
    obtain ⟨x, hx, rfl⟩ := ht
    obtain ⟨g1, g2, g3⟩ := itemL_of (h4 x hx)
    exact ⟨by omega, g2, g3⟩
  · unfold itemsL
    rw [h1, hc, List.map_map]
    conv => rhs; rw [← List.map_id l]
    exact List.map_congr_left fun x hx => (itemL_of (h4 x hx)).1
/- Ways through rules, and through predicates. -/

inductive Way {α : Type} (E : α → α → Prop) : α → α → Prop
  | one {a b : α} : E a b → Way E a b
  | more {a b c : α} : E a b → Way E b c → Way E a c
theorem Way.join {α : Type} {E : α → α → Prop} {a b c : α} (h : Way E a b) (k : Way E b c) : Way E a c := by
  induction h with
  | one e => exact .more e k
  | more e _ ih => exact .more e (ih k)

def Supp (n : Nat) (M : Nat → Nat → Bool) : Prop := ∀ a b, M a b = true → a < n ∧ b < n
theorem fwR_at {n : Nat} {M : Nat → Nat → Bool} (hM : Supp n M) : ∀ (m : Nat), m ≤ n → Supp n (fwR n M m) ∧ (∀ a b, M a b = true → fwR n M m a b = true) ∧ (∀ a b, fwR n M m a b = true → Way (fun a b => M a b = true) a b) ∧
    (∀ a b c, b < m → fwR n M m a b = true → fwR n M m b c = true → fwR n M m a c = true) := by
  intro m
  induction m with
  | zero => intro _; exact ⟨hM, fun _ _ h => h, fun _ _ h => .one h, fun _ _ _ h => by omega⟩
  | succ m ih =>
    intro hm
    obtain ⟨h1, h2, h3, h4⟩ := ih (by omega)
    have e : ∀ a b, fwR n M (m + 1) a b = true ↔ fwR n M m a b = true ∨ (fwR n M m a m = true ∧ fwR n M m m b = true) := by
      intro a b
      show fwN n (fwR n M m) m a b = true ↔ _
      unfold fwN fw
      split
      · simp
      · rename_i hn
        constructor
        · exact .inl
        · rintro (h | ⟨ha, hb⟩)
          · exact h
          · exact absurd ⟨(h1 _ _ ha).1, (h1 _ _ hb).2⟩ hn
    refine ⟨?_, ?_, ?_, ?_⟩
    · intro a b h
      rcases (e a b).1 h with h | ⟨ha, hb⟩
      · exact h1 _ _ h
      · exact ⟨(h1 _ _ ha).1, (h1 _ _ hb).2⟩
    · intro a b h; exact (e a b).2 (.inl (h2 _ _ h))
    · intro a b h
      rcases (e a b).1 h with h | ⟨ha, hb⟩
      · exact h3 _ _ h
      · exact (h3 _ _ ha).join (h3 _ _ hb)
    · intro a b c hb hab hbc
      rw [e] at hab hbc ⊢
      by_cases hbm : b = m
      · subst hbm
        have g1 : fwR n M b a b = true := by rcases hab with h | ⟨h, _⟩ <;> exact h
        have g2 : fwR n M b b c = true := by rcases hbc with h | ⟨_, h⟩ <;> exact h
        exact .inr ⟨g1, g2⟩
      · have hlt : b < m := by omega
        rcases hab with hab | ⟨ha, hb'⟩ <;> rcases hbc with hbc | ⟨hb2, hc⟩
        · exact .inl (h4 _ _ _ hlt hab hbc)
        · exact .inr ⟨h4 _ _ _ hlt hab hb2, hc⟩
        · exact .inr ⟨ha, h4 _ _ _ hlt hb' hbc⟩
        · exact .inr ⟨ha, hc⟩
theorem fwR_iff {n : Nat} {M : Nat → Nat → Bool} (hM : Supp n M) (a b : Nat) : fwR n M n a b = true ↔ Way (fun a b => M a b = true) a b := by
  obtain ⟨h1, h2, h3, h4⟩ := fwR_at hM n (Nat.le_refl _)
  refine ⟨h3 a b, fun h => ?_⟩
  induction h with
  | one e => exact h2 _ _ e
  | more e _ ih => exact h4 _ _ _ (hM _ _ e).2 (h2 _ _ e) ih

theorem webM_iff (l : List RItem) (i k : Nat) : webM l i k = true ↔ Way (fun a b => edge l a b = true) i k := by
  have he : ∀ a b, edge l a b = true → a < l.length ∧ b < l.length := by
    intro a b h
    unfold edge at h
    split at h
    · rename_i x y hx hy
      exact ⟨(List.getElem?_eq_some_iff.1 hx).1, (List.getElem?_eq_some_iff.1 hy).1⟩
    · cases h
  have e : (fun a b => if a < l.length ∧ b < l.length then edge l a b else false) = edge l := by
    funext a b
    split
    · rfl
    · rename_i hn
      cases hq : edge l a b with
      | false => rfl
      | true => exact absurd (he a b hq) hn
  unfold webM
  rw [e]
  exact fwR_iff he i k

def atOnce (l : List RItem) (p q : Tx) : Prop := ∃ x ∈ l, x.head.pred = p ∧ ∃ a ∈ x.body, a.pred = q
theorem edge_iff {l : List RItem} {i k : Nat} : edge l i k = true ↔ ∃ x y, l[i]? = some x ∧ l[k]? = some y ∧ y.out = false ∧ ∃ a ∈ x.body, a.pred = y.head.pred := by
  unfold edge
  constructor
  · intro h
    split at h
    · rename_i x y hx hy
      refine ⟨x, y, hx, hy, ?_⟩
      simp at h
      exact h
    · cases h
  · rintro ⟨x, y, hx, hy, h1, a, ha, h2⟩
    rw [hx, hy]
    simp only [h1, Bool.not_false, Bool.true_and]
    exact List.any_eq_true.2 ⟨a, ha, by simp [h2]⟩

theorem way_rules {l : List RItem} {i k : Nat} (h : Way (fun a b => edge l a b = true) i k) : ∃ x y, l[i]? = some x ∧ l[k]? = some y ∧ y.out = false ∧ Way (atOnce l) x.head.pred y.head.pred := by
  induction h with
  | one e =>
    obtain ⟨x, y, hx, hy, h1, a, ha, h2⟩ := edge_iff.1 e
    exact ⟨x, y, hx, hy, h1, .one ⟨x, List.mem_of_getElem? hx, rfl, a, ha, h2⟩⟩
  | more e _ ih =>
    obtain ⟨x, y, hx, hy, h1, a, ha, h2⟩ := edge_iff.1 e
    obtain ⟨x', z, hx', hz, h3, h4⟩ := ih
    rw [hy] at hx'
    cases hx'
    exact ⟨x, z, hx, hz, h3, .more ⟨x, List.mem_of_getElem? hx, rfl, a, ha, h2⟩ h4⟩
theorem way_preds {l : List RItem} (ho : ∀ x ∈ l, x.out = true → x.body = []) {p q : Tx} (h : Way (atOnce l) p q) : ∀ (k : Nat) (y : RItem), l[k]? = some y → y.out = false → y.head.pred = q → ∃ (i : Nat) (x : RItem), l[i]? = some x ∧ x.head.pred = p ∧ Way (fun a b => edge l a b = true) i k := by
  induction h with
  | one e =>
    intro k y hk hy hq
    obtain ⟨x, hx, h1, a, ha, h2⟩ := e
    obtain ⟨i, hi⟩ := List.getElem?_of_mem hx
    exact ⟨i, x, hi, h1, .one (edge_iff.2 ⟨x, y, hi, hk, hy, a, ha, by rw [h2, hq]⟩)⟩
  | more e _ ih =>
    intro k y hk hy hq
    obtain ⟨x, hx, h1, a, ha, h2⟩ := e
    obtain ⟨i, hi⟩ := List.getElem?_of_mem hx
    obtain ⟨j, z, hj, h3, h4⟩ := ih k y hk hy hq
    have hz : z.out = false := by
      have hne : z.body ≠ [] := by
        cases h4 with
        | one e =>
          obtain ⟨z', _, hz', _, _, a, ha, _⟩ := edge_iff.1 e
          rw [hj] at hz'; cases hz'
          intro hn; rw [hn] at ha; cases ha
        | more e _ =>
          obtain ⟨z', _, hz', _, _, a, ha, _⟩ := edge_iff.1 e
          rw [hj] at hz'; cases hz'
          intro hn; rw [hn] at ha; cases ha
      cases hb : z.out with
      | false => rfl
      | true => exact absurd (ho z (List.mem_of_getElem? hj) hb) hne
    exact ⟨i, x, hi, h1, .more (edge_iff.2 ⟨x, z, hi, hj, hz, a, ha, by rw [h2, h3]⟩) h4⟩

theorem usesB_iff {l : List RItem} (ho : ∀ x ∈ l, x.out = true → x.body = []) {p q : Tx} (hq : ∃ y ∈ l, y.out = false ∧ y.head.pred = q) : usesB l p q = true ↔ Way (atOnce l) p q := by
  unfold usesB
  constructor
  · intro h
    rw [List.any_eq_true] at h
    obtain ⟨i, -, h⟩ := h
    rw [List.any_eq_true] at h
    obtain ⟨k, -, h⟩ := h
    unfold hitU at h
    simp only [Bool.and_eq_true, beq_iff_eq] at h
    obtain ⟨⟨h1, h2⟩, h3⟩ := h
    obtain ⟨x, y, hx, hy, _, hw⟩ := way_rules ((webM_iff l i k).1 h1)
    unfold headOf at h2 h3
    rw [hx] at h2
    rw [hy] at h3
    rw [← h2, ← h3]
    exact hw
  · intro h
    obtain ⟨y, hy, h1, h2⟩ := hq
    obtain ⟨k, hk⟩ := List.getElem?_of_mem hy
    obtain ⟨i, x, hi, h3, h4⟩ := way_preds ho h k y hk h1 h2
    rw [List.any_eq_true]
    refine ⟨i, by simpa using (List.getElem?_eq_some_iff.1 hi).1, ?_⟩
    rw [List.any_eq_true]
    refine ⟨k, by simpa using (List.getElem?_eq_some_iff.1 hk).1, ?_⟩
    unfold hitU headOf
    rw [(webM_iff l i k).2 h4, hi, hk]
    simp [h2, h3]
end Go.Proofs.YtmoeoppbmhfbpaaDoorX
