import Derived.Test.YtmoeoppbmhfbpaaGreatDoorBRefA
/- The words of a program: a reader that goes down, held against the document's scanner. -/
namespace Go.Proofs.YtmoeoppbmhfbpaaGreatDoorB
open Go.Abs
set_option linter.unusedSimpArgs false
set_option linter.unusedVariables false
abbrev Tx := List UInt8
inductive Rd (α : Type) where
 | bad (e : Tx)
 | got (x : α) (r : Tx)
def Rd.bnd {α β : Type} : Rd α → (α → Tx → Rd β) → Rd β
 | .bad e, _ => .bad e
 | .got x r, f => f x r
def digitB (c : Int) : Bool := decide (48 ≤ c) && decide (c ≤ 57)
def pByte (c : Int) : Tx → Rd Unit
 | [] => .bad []
 | b :: r => if ((b.toNat : Int) == c) = true then .got () r else .bad (b :: r)
def pWhile (p : Int → Bool) : Nat → Tx → Tx × Tx
 | 0, s => ([], s)
 | _ + 1, [] => ([], [])
 | n + 1, b :: r => if p b.toNat = true then (b :: (pWhile p n r).1, (pWhile p n r).2) else ([], b :: r)
def pName (s : Tx) : Rd Tx := if (pWhile smallB 6 s).1 = [] then .bad s else .got (pWhile smallB 6 s).1 (pWhile smallB 6 s).2
def pTerm : Tx → Rd Tx
 | [] => .bad []
 | b :: r => if largeB b.toNat = true then .got [b] r else if ((b.toNat : Int) == 48) = true then .got [b] r
  else if nineB b.toNat = true then .got (b :: (pWhile digitB 2 r).1) (pWhile digitB 2 r).2 else .bad (b :: r)
def pMore {α : Type} (f : Tx → Rd α) : Nat → Tx → Rd (List α)
 | 0, s => .got [] s
 | _ + 1, [] => .got [] []
 | n + 1, b :: r => if ((b.toNat : Int) == 44) = true then
   (f r).bnd fun x r1 => (pMore f n r1).bnd fun xs r2 => .got (x :: xs) r2
  else .got [] (b :: r)
def pArgs (nt : Bool) (p : Tx) (s : Tx) : Rd RAtom :=
 (pTerm s).bnd fun t r => (pMore pTerm 2 r).bnd fun ts r => (pByte 41 r).bnd fun _ r => .got { nt := nt, pred := p, terms := t :: ts } r
def pAtom (nt : Bool) (s : Tx) : Rd RAtom :=
 (pName s).bnd fun p r => (pByte 40 r).bnd fun _ r => pArgs nt p r
def pLit : Tx → Rd RAtom
 | [] => .bad []
 | b :: r => if ((b.toNat : Int) == 33) = true then pAtom true r else pAtom false (b :: r)
def pBody (h : RAtom) (s : Tx) : Rd RItem :=
 (pLit s).bnd fun l r => (pMore pLit 4 r).bnd fun ls r => (pByte 46 r).bnd fun _ r => .got { out := false, head := h, body := l :: ls } r
def pTail (h : RAtom) : Tx → Rd RItem
 | [] => .bad []
 | b :: r => if ((b.toNat : Int) == 46) = true then .got { out := false, head := h, body := [] } r else
   (pByte 58 (b :: r)).bnd fun _ r => (pByte 45 r).bnd fun _ r => pBody h r
def pRule (s : Tx) : Rd RItem := (pAtom false s).bnd fun h r => pTail h r
def pOut (s : Tx) : Rd RItem :=
 (pName s).bnd fun p r => (pByte 46 r).bnd fun _ r => .got { out := true, head := { nt := false, pred := p, terms := [] }, body := [] } r
def pItem : Tx → Rd RItem
 | [] => .bad []
 | b :: r => if ((b.toNat : Int) == 63) = true then pOut r else pRule (b :: r)
def pItems : Nat → Tx → Rd (List RItem)
 | _, [] => .got [] []
 | 0, s => .bad s
 | n + 1, s => (pItem s).bnd fun x r => (pItems n r).bnd fun xs r => .got (x :: xs) r
/-! ### The scanner, by what is left of the text -/
def stop : Scan → Tx → Option Tx
 | X, [] => if X.st != 0 then some [] else none
 | X, c :: r => if (stepS X c).2 = true then stop (stepS X c).1 r else some (c :: r)
theorem runS_stop : ∀ (s : Tx) (X : Scan) (i : Nat),
  (match (runS X s i).2 with | some j => (j : Int) | none => if (runS X s i).1.st != 0 then ((i + s.length : Nat) : Int) else -1) = match stop X s with | some r => ((i + s.length - r.length : Nat) : Int) | none => -1 := by
 intro s
 induction s with
 | nil => intro X i; simp only [runS, stop]; split <;> simp_all
 | cons c r ih =>
  intro X i
  unfold runS stop
  by_cases h : (stepS X c).2 = true
  ·simp only [h, if_true]
   have := ih (stepS X c).1 (i + 1)
   rw [show i + (c :: r).length = i + 1 + r.length by simp; omega]
   exact this
  ·simp only [h]
   simp
theorem placeL_stop (s : Tx) : placeL s = match stop scan0 s with | some r => ((s.length - r.length : Nat) : Int) | none => -1 := by
 have := runS_stop s scan0 0
 unfold placeL
 rw [Nat.zero_add] at this
 rw [← this]
 rfl
def Via {α : Type} (P : Scan → Prop) (res : Rd α) (o : Option Tx) : Prop :=
 match res with
 | .bad e => o = some e
 | .got _ r => ∃ X', P X' ∧ o = stop X' r
theorem Via.bind {α β : Type} {P Q : Scan → Prop} {res : Rd α} {o : Option Tx} {f : α → Tx → Rd β} (h : Via P res o) (k : ∀ x r X', P X' → Via Q (f x r) (stop X' r)) : Via Q (res.bnd f) o := by
 cases res with
 | bad e => exact h
 | got x r =>
  obtain ⟨X', hP, rfl⟩ := h
  exact k x r X' hP
theorem Via.ret {α : Type} {P : Scan → Prop} {x : α} {r : Tx} {X : Scan} (h : P X) : Via P (.got x r) (stop X r) := ⟨X, h, rfl⟩
theorem Via.err {α : Type} {P : Scan → Prop} {e : Tx} {o : Option Tx} (h : o = some e) : Via (α := α) P (.bad e) o := h
theorem stop_go {X : Scan} {c : UInt8} {r : Tx} (h : (stepS X c).2 = true) : stop X (c :: r) = stop (stepS X c).1 r := by
 rw [stop, if_pos h]
theorem stop_no {X : Scan} {c : UInt8} {r : Tx} (h : (stepS X c).2 = false) : stop X (c :: r) = some (c :: r) := by
 rw [stop, if_neg (by simp [h])]
theorem stop_nil {X : Scan} (h : X.st ≠ 0) : stop X [] = some [] := by
 rw [stop, if_pos (by simpa using h)]
def same3 (X X' : Scan) : Prop := X'.items = X.items ∧ X'.lits = X.lits ∧ X'.head = X.head
theorem via_name : ∀ (n : Nat) (s : Tx) (X : Scan), X.st = 5 → X.letters = 6 - (n : Int) → n ≤ 6 →
  Via (fun X' => X'.st = 6 ∧ X'.terms = 0 ∧ same3 X X') (pByte 40 (pWhile smallB n s).2) (stop X s) := by
 intro n
 induction n with
 | zero =>
  intro s X h5 hl hn
  cases s with
  | nil => exact Via.err (stop_nil (by omega))
  | cons b r =>
   unfold pWhile pByte
   simp only
   by_cases hb : ((b.toNat : Int) == 40) = true
   ·rw [if_pos hb]
    have e : stepS X b = ({ X with terms := 0, st := 6 }, true) := by
     simp [stepS, innerF, h5, hl, hb]
    rw [stop_go (by rw [e]), e]
    exact Via.ret ⟨rfl, rfl, rfl, rfl, rfl⟩
   ·rw [if_neg hb]
    refine Via.err (stop_no ?_)
    simp [stepS, innerF, h5, hl, hb]
 | succ n ih =>
  intro s X h5 hl hn
  cases s with
  | nil => exact Via.err (stop_nil (by omega))
  | cons b r =>
   unfold pWhile
   by_cases hs : smallB b.toNat = true
   ·rw [if_pos hs]
    have e : stepS X b = ({ X with letters := X.letters + 1 }, true) := by
     simp [stepS, innerF, h5, hs]
     omega
    rw [stop_go (by rw [e]), e]
    exact ih r { X with letters := X.letters + 1 } h5 (by simp; omega) (by omega)
   ·rw [if_neg hs]
    unfold pByte
    simp only
    by_cases hb : ((b.toNat : Int) == 40) = true
    ·rw [if_pos hb]
     have e : stepS X b = ({ X with terms := 0, st := 6 }, true) := by
      simp [stepS, innerF, h5, hs, hb]
     rw [stop_go (by rw [e]), e]
     exact Via.ret ⟨rfl, rfl, rfl, rfl, rfl⟩
    ·rw [if_neg hb]
     refine Via.err (stop_no ?_)
     simp [stepS, innerF, h5, hs, hb]
/- The scanner goes as the reader goes. -/
theorem bnd_assoc {α β γ : Type} (a : Rd α) (f : α → Tx → Rd β) (g : β → Tx → Rd γ) : (a.bnd f).bnd g = a.bnd fun x r => (f x r).bnd g := by cases a <;> rfl
theorem digit_iff {c : Int} : digitB c = true ↔ (nineB c = true ∨ (c == 48) = true) := by
 simp [digitB, nineB]; omega
theorem large_not_nine {c : Int} (h : largeB c = true) : nineB c = false := by
 simp [largeB, nineB] at *; omega
theorem seven_eight {X : Scan} {s : Tx} (h7 : X.st = 7) (h : ∀ b r, s = b :: r → digitB b.toNat = true → ¬ X.digits < 3) : stop X s = stop { X with st := 8 } s := by
 cases s with
 | nil => rw [stop_nil (by omega), stop_nil (by simp)]
 | cons b r =>
  have hd := h b r rfl
  have hq : ¬ ((X.st == 7) = true ∧ decide (X.digits < 3) = true ∧ (nineB b.toNat = true ∨ ((b.toNat : Int) == 48) = true)) := by
   rintro ⟨-, q1, q2⟩
   exact hd (digit_iff.2 q2) (by simpa using q1)
  have e1 : stepS X b = if ((b.toNat : Int) == 41) = true then ({ X with lits := if (!X.head) = true then X.lits + 1 else X.lits, st := 9 }, true) else if ((b.toNat : Int) == 44) = true ∧ decide (X.terms < 3) = true then ({ X with st := 6 }, true) else (X, false) := by
   unfold stepS innerF
   rw [if_pos (by simp [h7]), if_neg (by simp [h7]), if_neg (by simp [h7]), if_neg hq]
  have e2 : stepS { X with st := 8 } b = if ((b.toNat : Int) == 41) = true then ({ X with lits := if (!X.head) = true then X.lits + 1 else X.lits, st := 9 }, true) else if ((b.toNat : Int) == 44) = true ∧ decide (X.terms < 3) = true then ({ X with st := 6 }, true) else ({ X with st := 8 }, false) := by
   unfold stepS innerF
   rw [if_pos (by simp), if_neg (by simp), if_neg (by simp), if_neg (by simp)]
  unfold stop
  rw [e1, e2]
  by_cases h1 : ((b.toNat : Int) == 41) = true
  ·rw [if_pos h1, if_pos h1]
  ·rw [if_neg h1, if_neg h1]
   by_cases h2 : ((b.toNat : Int) == 44) = true ∧ decide (X.terms < 3) = true
   ·rw [if_pos h2, if_pos h2]
   ·rw [if_neg h2, if_neg h2]; rfl
theorem via_digits : ∀ (n : Nat) (s : Tx) (X : Scan), X.st = 7 → X.digits = 3 - (n : Int) → ∃ X', X'.st = 8 ∧ X'.terms = X.terms ∧ same3 X X' ∧ stop X s = stop X' (pWhile digitB n s).2 := by
 intro n
 induction n with
 | zero =>
  intro s X h7 hd
  exact ⟨{ X with st := 8 }, rfl, rfl, ⟨rfl, rfl, rfl⟩, seven_eight h7 (fun _ _ _ _ => by omega)⟩
 | succ n ih =>
  intro s X h7 hd
  cases s with
  | nil => exact ⟨{ X with st := 8 }, rfl, rfl, ⟨rfl, rfl, rfl⟩, seven_eight h7 (fun _ _ h _ => by cases h)⟩
  | cons b r =>
   unfold pWhile
   by_cases hb : digitB b.toNat = true
   ·rw [if_pos hb]
    have e : stepS X b = ({ X with digits := X.digits + 1 }, true) := by
     have := digit_iff.1 hb
     unfold stepS innerF
     rw [if_pos (by simp [h7]), if_neg (by simp [h7]), if_neg (by simp [h7]), if_pos ⟨by simp [h7], by simp; omega, this⟩]
    rw [stop_go (by rw [e]), e]
    obtain ⟨X', h1, h2, h3, h4⟩ := ih r { X with digits := X.digits + 1 } h7 (by simp; omega)
    exact ⟨X', h1, h2, h3, h4⟩
   ·rw [if_neg hb]
    exact ⟨{ X with st := 8 }, rfl, rfl, ⟨rfl, rfl, rfl⟩, seven_eight h7 (fun c q h hc => by cases h; exact absurd hc hb)⟩
theorem via_term (s : Tx) (X : Scan) (h6 : X.st = 6) : Via (fun X' => X'.st = 8 ∧ X'.terms = X.terms + 1 ∧ same3 X X') (pTerm s) (stop X s) := by
 cases s with
 | nil => exact Via.err (stop_nil (by omega))
 | cons b r =>
  unfold pTerm
  by_cases hl : largeB b.toNat = true
  ·simp only [hl, if_true]
   have e : stepS X b = ({ X with terms := X.terms + 1, digits := 1, st := 8 }, true) := by
    simp [stepS, innerF, h6, hl, large_not_nine hl]
   rw [stop_go (by rw [e]), e]
   exact Via.ret ⟨rfl, rfl, rfl, rfl, rfl⟩
  ·simp only [hl]
   by_cases hz : ((b.toNat : Int) == 48) = true
   ·have hn : nineB b.toNat = false := by simp [nineB] at *; omega
    simp only [hz, if_true]
    have e : stepS X b = ({ X with terms := X.terms + 1, digits := 1, st := 8 }, true) := by
     simp [stepS, innerF, h6, hl, hz, hn]
    rw [stop_go (by rw [e]), e]
    exact Via.ret ⟨rfl, rfl, rfl, rfl, rfl⟩
   ·simp only [hz]
    by_cases hn : nineB b.toNat = true
    ·simp only [hn, if_true]
     have e : stepS X b = ({ X with terms := X.terms + 1, digits := 1, st := 7 }, true) := by
      simp [stepS, innerF, h6, hn]
     rw [stop_go (by rw [e]), e]
     obtain ⟨X', h1, h2, h3, h4⟩ := via_digits 2 r { X with terms := X.terms + 1, digits := 1, st := 7 } rfl (by simp)
     exact ⟨X', ⟨h1, h2, h3⟩, h4⟩
    ·simp only [hn]
     refine Via.err (stop_no ?_)
     simp [stepS, innerF, h6, hl, hz, hn]
def Done (it li : Int) (hd : Bool) (X : Scan) : Prop := X.st = 9 ∧ X.items = it ∧ X.head = hd ∧ X.lits = if hd = true then li else li + 1
theorem via_close {β : Type} (s : Tx) (X : Scan) (k : β) (h8 : X.st = 8) (h : ∀ b r, s = b :: r → ((b.toNat : Int) == 44) = true → ¬ X.terms < 3) :
  Via (Done X.items X.lits X.head) ((pByte 41 s).bnd fun _ r => .got k r) (stop X s) := by
 cases s with
 | nil => exact Via.err (stop_nil (by omega))
 | cons b r =>
  unfold pByte
  have hh := h b r rfl
  by_cases hb : ((b.toNat : Int) == 41) = true
  ·simp only [hb, if_true]
   have e : stepS X b = ({ X with lits := if (!X.head) = true then X.lits + 1 else X.lits, st := 9 }, true) := by
    simp [stepS, innerF, h8, hb]
   rw [stop_go (by rw [e]), e]
   refine Via.ret ⟨rfl, rfl, rfl, ?_⟩
   cases X.head <;> simp
  ·simp only [hb]
   refine Via.err (stop_no ?_)
   simp [stepS, innerF, h8, hb]
   rw [if_neg]
   rintro ⟨h1, h2⟩
   have := hh (by simpa using h1)
   omega
theorem via_args {β : Type} : ∀ (n : Nat) (s : Tx) (X : Scan) (k : List Tx → β), X.st = 8 → X.terms = 3 - (n : Int) →
  Via (Done X.items X.lits X.head) ((pMore pTerm n s).bnd fun ts r => (pByte 41 r).bnd fun _ r => .got (k ts) r) (stop X s) := by
 intro n
 induction n with
 | zero =>
  intro s X k h8 ht
  exact via_close s X (k []) h8 (fun _ _ _ _ => by omega)
 | succ n ih =>
  intro s X k h8 ht
  cases s with
  | nil => exact Via.err (stop_nil (by omega))
  | cons b r =>
   unfold pMore
   by_cases hb : ((b.toNat : Int) == 44) = true
   ·simp only [hb, if_true]
    have e : stepS X b = ({ X with st := 6 }, true) := by
     have : ¬ ((b.toNat : Int) == 41) = true := by simp at *; omega
     simp [stepS, innerF, h8, hb, this]
     omega
    rw [stop_go (by rw [e]), e, bnd_assoc]
    refine Via.bind (via_term r { X with st := 6 } rfl) ?_
    rintro x r1 X' ⟨h1, h2, h3, h4, h5⟩
    rw [bnd_assoc]
    have := ih r1 X' (fun ts => k (x :: ts)) h1 (by simp at h2; omega)
    rw [h3, h4, h5] at this
    exact this
   ·simp only [hb]
    exact via_close (b :: r) X (k []) h8 (fun c q h hc => by cases h; exact absurd hc hb)
theorem via_atom (nt : Bool) (b : UInt8) (r : Tx) (X : Scan) (it li : Int) (hd : Bool) (hs : smallB b.toNat = true → ∃ X1, stepS X b = (X1, true) ∧ X1.st = 5 ∧ X1.letters = 1 ∧ X1.items = it ∧ X1.lits = li ∧ X1.head = hd)
  (hn : smallB b.toNat = false → (stepS X b).2 = false) : Via (Done it li hd) (pAtom nt (b :: r)) (stop X (b :: r)) := by
 unfold pAtom pName
 by_cases hb : smallB b.toNat = true
 ·obtain ⟨X1, e, h1, h2, h3, h4, h5⟩ := hs hb
  rw [stop_go (by rw [e]), e]
  have e6 : pWhile smallB 6 (b :: r) = (b :: (pWhile smallB 5 r).1, (pWhile smallB 5 r).2) := by rw [pWhile, if_pos hb]
  rw [e6]
  simp only [reduceCtorEq, if_false, Rd.bnd]
  refine Via.bind (via_name 5 r X1 h1 (by omega) (by omega)) ?_
  rintro _ r1 X' ⟨g1, g2, g3, g4, g5⟩
  unfold pArgs
  refine Via.bind (via_term r1 X' g1) ?_
  rintro t r2 X2 ⟨q1, q2, q3, q4, q5⟩
  have := via_args 2 r2 X2 (fun ts => ({ nt := nt, pred := b :: (pWhile smallB 5 r).1, terms := t :: ts } : RAtom)) q1 (by omega)
  rw [q3, g3, h3, q4, g4, h4, q5, g5, h5] at this
  exact this
 ·have hb' : smallB b.toNat = false := by simpa using hb
  have e6 : pWhile smallB 6 (b :: r) = ([], b :: r) := by rw [pWhile, if_neg hb]
  rw [e6]
  simp only [if_true, Rd.bnd]
  exact Via.err (stop_no (hn hb'))
theorem via_lit (s : Tx) (X : Scan) (h3 : X.st = 3) : Via (Done X.items X.lits X.head) (pLit s) (stop X s) := by
 cases s with
 | nil => exact Via.err (stop_nil (by omega))
 | cons b r =>
  unfold pLit
  by_cases hb : ((b.toNat : Int) == 33) = true
  ·simp only [hb, if_true]
   have e : stepS X b = ({ X with letters := 1, st := 4 }, true) := by simp [stepS, outerF, h3, hb]
   rw [stop_go (by rw [e]), e]
   cases r with
   | nil =>
    refine Via.err (stop_nil (by simp))
   | cons c q =>
    refine via_atom true c q _ _ _ _ (fun hs => ⟨{ X with letters := 1, st := 5 }, ?_, rfl, rfl, rfl, rfl, rfl⟩) (fun hs => ?_)
    ·simp [stepS, outerF, hs]
    ·simp [stepS, outerF, hs]
  ·simp only [hb]
   refine via_atom false b r _ _ _ _ (fun hs => ⟨{ X with letters := 1, st := 5 }, ?_, rfl, rfl, rfl, rfl, rfl⟩) (fun hs => ?_)
   ·simp [stepS, outerF, h3, hb, hs]
   ·simp [stepS, outerF, h3, hb, hs]
def Next (it : Int) (X : Scan) : Prop := X.st = 0 ∧ X.items = it + 1
theorem via_dot {β : Type} (s : Tx) (X : Scan) (k : β) (h9 : X.st = 9) (hh : X.head = false) (h : ∀ b r, s = b :: r → ((b.toNat : Int) == 44) = true → ¬ X.lits < 5) :
  Via (Next X.items) ((pByte 46 s).bnd fun _ r => .got k r) (stop X s) := by
 cases s with
 | nil => exact Via.err (stop_nil (by omega))
 | cons b r =>
  unfold pByte
  have hq := h b r rfl
  by_cases hb : ((b.toNat : Int) == 46) = true
  ·simp only [hb, if_true]
   have e : stepS X b = ({ X with items := X.items + 1, st := 0 }, true) := by simp [stepS, outerF, h9, hb]
   rw [stop_go (by rw [e]), e]
   exact Via.ret ⟨rfl, rfl⟩
  ·simp only [hb]
   refine Via.err (stop_no ?_)
   simp [stepS, outerF, h9, hb, hh]
   rw [if_neg]
   rintro ⟨h1, h2⟩
   have := hq (by simpa using h1)
   omega
theorem via_lits {β : Type} : ∀ (n : Nat) (s : Tx) (X : Scan) (k : List RAtom → β), X.st = 9 → X.head = false → X.lits = 5 - (n : Int) →
  Via (Next X.items) ((pMore pLit n s).bnd fun ts r => (pByte 46 r).bnd fun _ r => .got (k ts) r) (stop X s) := by
 intro n
 induction n with
 | zero =>
  intro s X k h9 hh ht
  exact via_dot s X (k []) h9 hh (fun _ _ _ _ => by omega)
 | succ n ih =>
  intro s X k h9 hh ht
  cases s with
  | nil => exact Via.err (stop_nil (by omega))
  | cons b r =>
   unfold pMore
   by_cases hb : ((b.toNat : Int) == 44) = true
   ·simp only [hb, if_true]
    have e : stepS X b = ({ X with st := 3 }, true) := by
     have h1 : ¬ ((b.toNat : Int) == 46) = true := by simp at *; omega
     simp [stepS, outerF, h9, hb, h1, hh]
     omega
    rw [stop_go (by rw [e]), e, bnd_assoc]
    refine Via.bind (via_lit r { X with st := 3 } rfl) ?_
    rintro x r1 X' ⟨h1, h2, h3, h4⟩
    rw [bnd_assoc]
    have := ih r1 X' (fun ts => k (x :: ts)) h1 (by rw [h3]; exact hh) (by simp [hh] at h4; omega)
    rw [h2] at this
    exact this
   ·simp only [hb]
    exact via_dot (b :: r) X (k []) h9 hh (fun c q h hc => by cases h; exact absurd hc hb)
theorem via_body (h : RAtom) (s : Tx) (X : Scan) (h3 : X.st = 3) (hh : X.head = false) (hl : X.lits = 0) : Via (Next X.items) (pBody h s) (stop X s) := by
 unfold pBody
 refine Via.bind (via_lit s X h3) ?_
 rintro x r X' ⟨h1, h2, h4, h5⟩
 have := via_lits 4 r X' (fun ls => ({ out := false, head := h, body := x :: ls } : RItem)) h1 (by rw [h4]; exact hh) (by simp [hh, hl] at h5; omega)
 rw [h2] at this
 exact this
theorem via_tail (h : RAtom) (s : Tx) (X : Scan) (h9 : X.st = 9) (hh : X.head = true) (hl : X.lits = 0) : Via (Next X.items) (pTail h s) (stop X s) := by
 cases s with
 | nil => exact Via.err (stop_nil (by omega))
 | cons b r =>
  unfold pTail
  by_cases hb : ((b.toNat : Int) == 46) = true
  ·simp only [hb, if_true]
   have e : stepS X b = ({ X with items := X.items + 1, st := 0 }, true) := by simp [stepS, outerF, h9, hb]
   rw [stop_go (by rw [e]), e]
   exact Via.ret ⟨rfl, rfl⟩
  ·simp only [hb]
   unfold pByte
   by_cases hc : ((b.toNat : Int) == 58) = true
   ·simp only [hc, if_true]
    have e : stepS X b = ({ X with st := 10 }, true) := by simp [stepS, outerF, h9, hb, hc, hh]
    rw [stop_go (by rw [e]), e]
    cases r with
    | nil => exact Via.err (stop_nil (by simp))
    | cons c q =>
     by_cases hd : ((c.toNat : Int) == 45) = true
     ·simp only [hd, if_true, Rd.bnd]
      have e : stepS { X with st := 10 } c = ({ X with head := false, st := 3 }, true) := by simp [stepS, outerF, hd]
      simp only [Bool.false_eq_true, if_false]
      rw [stop_go (by rw [e]), e]
      exact via_body h q { X with head := false, st := 3 } rfl rfl hl
     ·simp only [hd, Rd.bnd]
      refine Via.err (stop_no ?_)
      simp [stepS, outerF, hd]
   ·simp only [hc]
    refine Via.err (stop_no ?_)
    simp [stepS, outerF, h9, hb, hc, hh]
theorem via_oname : ∀ (n : Nat) (s : Tx) (X : Scan) (k : Tx → RItem), X.st = 2 → X.letters = 6 - (n : Int) →
  Via (Next X.items) ((pByte 46 (pWhile smallB n s).2).bnd fun _ r => .got (k (pWhile smallB n s).1) r) (stop X s) := by
 intro n
 induction n with
 | zero =>
  intro s X k h2 hl
  cases s with
  | nil => exact Via.err (stop_nil (by omega))
  | cons b r =>
   unfold pWhile pByte
   by_cases hb : ((b.toNat : Int) == 46) = true
   ·simp only [hb, if_true]
    have e : stepS X b = ({ X with items := X.items + 1, st := 0 }, true) := by simp [stepS, outerF, h2, hl, hb]
    rw [stop_go (by rw [e]), e]
    exact Via.ret ⟨rfl, rfl⟩
   ·simp only [hb]
    refine Via.err (stop_no ?_)
    simp [stepS, outerF, h2, hl, hb]
 | succ n ih =>
  intro s X k h2 hl
  cases s with
  | nil => exact Via.err (stop_nil (by omega))
  | cons b r =>
   unfold pWhile
   by_cases hs : smallB b.toNat = true
   ·simp only [hs, if_true]
    have e : stepS X b = ({ X with letters := X.letters + 1, st := 2 }, true) := by
     simp [stepS, outerF, h2, hs]; omega
    rw [stop_go (by rw [e]), e]
    exact ih r { X with letters := X.letters + 1, st := 2 } (fun x => k (b :: x)) rfl (by simp; omega)
   ·simp only [hs]
    unfold pByte
    by_cases hb : ((b.toNat : Int) == 46) = true
    ·simp only [Bool.false_eq_true, if_false, hb, if_true]
     have e : stepS X b = ({ X with items := X.items + 1, st := 0 }, true) := by simp [stepS, outerF, h2, hs, hb]
     rw [stop_go (by rw [e]), e]
     exact Via.ret ⟨rfl, rfl⟩
    ·simp only [Bool.false_eq_true, if_false, hb]
     refine Via.err (stop_no ?_)
     simp [stepS, outerF, h2, hs, hb]
theorem via_item (b : UInt8) (r : Tx) (X : Scan) (h0 : X.st = 0) (hi : X.items ≠ 16) : Via (Next X.items) (pItem (b :: r)) (stop X (b :: r)) := by
 unfold pItem
 by_cases hb : ((b.toNat : Int) == 63) = true
 ·simp only [hb, if_true]
  have e : stepS X b = ({ X with head := true, letters := 0, lits := 0, st := 1 }, true) := by simp [stepS, outerF, h0, hi, hb]
  rw [stop_go (by rw [e]), e]
  unfold pOut pName
  cases r with
  | nil => exact Via.err (stop_nil (by simp))
  | cons c q =>
   by_cases hs : smallB c.toNat = true
   ·have e6 : pWhile smallB 6 (c :: q) = (c :: (pWhile smallB 5 q).1, (pWhile smallB 5 q).2) := by rw [pWhile, if_pos hs]
    rw [e6]
    simp only [reduceCtorEq, if_false, Rd.bnd]
    have e : stepS { X with head := true, letters := 0, lits := 0, st := 1 } c = ({ X with head := true, letters := 1, lits := 0, st := 2 }, true) := by simp [stepS, outerF, hs]
    rw [stop_go (by rw [e]), e]
    exact via_oname 5 q { X with head := true, letters := 1, lits := 0, st := 2 } (fun x => { out := true, head := { nt := false, pred := c :: x, terms := [] }, body := [] }) rfl (by simp)
   ·have e6 : pWhile smallB 6 (c :: q) = ([], c :: q) := by rw [pWhile, if_neg hs]
    rw [e6]
    simp only [if_true, Rd.bnd]
    refine Via.err (stop_no ?_)
    simp [stepS, outerF, hs]
 ·simp only [hb]
  unfold pRule
  refine Via.bind (via_atom false b r X X.items 0 true (fun hs => ⟨{ X with head := true, letters := 1, lits := 0, st := 5 }, ?_, rfl, rfl, rfl, rfl, rfl⟩) (fun hs => ?_)) ?_
  ·simp [stepS, outerF, h0, hi, hb, hs]
  ·simp [stepS, outerF, h0, hi, hb, hs]
  ·rintro x r X' ⟨h1, h2, h3, h4⟩
   have := via_tail x r X' h1 h3 (by simpa using h4)
   rw [h2] at this
   exact this
theorem via_items : ∀ (n : Nat) (s : Tx) (X : Scan), X.st = 0 → X.items = 16 - (n : Int) → stop X s = match pItems n s with | .bad e => some e | .got _ _ => none := by
 intro n
 induction n with
 | zero =>
  intro s X h0 hi
  cases s with
  | nil => simp [stop, pItems, h0]
  | cons b r =>
   simp only [pItems]
   refine stop_no ?_
   simp [stepS, outerF, h0, hi]
 | succ n ih =>
  intro s X h0 hi
  cases s with
  | nil => simp [stop, pItems, h0]
  | cons b r =>
   have hv := via_item b r X h0 (by omega)
   unfold pItems
   cases hp : pItem (b :: r) with
   | bad e => rw [hp] at hv; exact hv
   | got x q =>
    rw [hp] at hv
    obtain ⟨X', ⟨h1, h2⟩, h3⟩ := hv
    rw [h3, ih q X' h1 (by omega)]
    simp only [Rd.bnd]
    cases pItems n q <;> rfl
theorem placeL_parse (s : Tx) : placeL s = match pItems 16 s with | .bad e => ((s.length - e.length : Nat) : Int) | .got _ _ => -1 := by
 rw [placeL_stop, via_items 16 s scan0 rfl rfl]
 cases pItems 16 s <;> rfl
/- What the reader read is what the document's cuts make of the text. -/
theorem byte_eq {b : UInt8} (c : UInt8) (h : ((b.toNat : Int) == (c.toNat : Int)) = true) : b = c := by
 have : b.toNat = c.toNat := by simp at h; omega
 exact UInt8.toNat_inj.1 this
/-! ### Words that are well made, and their texts -/
def WName (p : Tx) : Prop := p ≠ [] ∧ ∀ b ∈ p, smallB b.toNat = true
def WTerm (t : Tx) : Prop := t ≠ [] ∧ ∀ b ∈ t, largeB b.toNat = true ∨ digitB b.toNat = true
def WAtom (a : RAtom) : Prop := WName a.pred ∧ a.terms ≠ [] ∧ a.terms.length ≤ 3 ∧ ∀ t ∈ a.terms, WTerm t
def WItem (x : RItem) : Prop := WName x.head.pred ∧ (x.out = true → x.head.nt = false ∧ x.head.terms = [] ∧ x.body = []) ∧ (x.out = false → WAtom x.head ∧ x.head.nt = false ∧ x.body.length ≤ 5 ∧ ∀ a ∈ x.body, WAtom a)
def uMore (ts : List Tx) : Tx := ts.flatMap fun t => 44 :: t
def uList : List Tx → Tx
 | [] => []
 | t :: ts => t ++ uMore ts
def uAtom (a : RAtom) : Tx := a.pred ++ 40 :: (uList a.terms ++ [41])
def uLit (a : RAtom) : Tx := (if a.nt = true then [33] else []) ++ uAtom a
def uRule (x : RItem) : Tx := uAtom x.head ++ (if x.body = [] then [] else 58 :: 45 :: uList (x.body.map uLit))
def uItem (x : RItem) : Tx := if x.out = true then 63 :: x.head.pred else uRule x
theorem bnd_got {α β : Type} {a : Rd α} {f : α → Tx → Rd β} {y : β} {r : Tx} (h : a.bnd f = .got y r) : ∃ x q, a = .got x q ∧ f x q = .got y r := by
 cases a with
 | bad e => cases h
 | got x q => exact ⟨x, q, rfl, h⟩
theorem pByte_got {c : UInt8} {s r : Tx} {x : Unit} (h : pByte c.toNat s = .got x r) : s = c :: r := by
 cases s with
 | nil => cases h
 | cons b q =>
  unfold pByte at h
  dsimp only at h
  split at h
  ·rename_i hb
   cases h
   rw [byte_eq c hb]
  ·cases h
theorem pWhile_took (p : Int → Bool) : ∀ (n : Nat) (s : Tx), s = (pWhile p n s).1 ++ (pWhile p n s).2 ∧ (∀ b ∈ (pWhile p n s).1, p b.toNat = true)
 | 0, s => by simp [pWhile]
 | n + 1, [] => by simp [pWhile]
 | n + 1, b :: r => by
  unfold pWhile
  split
  ·rename_i h
   obtain ⟨h1, h2⟩ := pWhile_took p n r
   refine ⟨by simp; exact h1, ?_⟩
   intro c hc
   rcases List.mem_cons.1 hc with rfl | hc
   ·exact h
   ·exact h2 c hc
  ·simp
theorem pName_took {s r p : Tx} (h : pName s = .got p r) : s = p ++ r ∧ WName p := by
 unfold pName at h
 split at h
 ·cases h
 ·rename_i hne
  cases h
  exact ⟨(pWhile_took smallB 6 s).1, hne, (pWhile_took smallB 6 s).2⟩
theorem pTerm_took {s r t : Tx} (h : pTerm s = .got t r) : s = t ++ r ∧ WTerm t := by
 cases s with
 | nil => cases h
 | cons b q =>
  unfold pTerm at h
  dsimp only at h
  split at h
  ·rename_i hl; cases h; exact ⟨rfl, by simp, by simp [hl]⟩
  ·split at h
   ·rename_i hz; cases h
    refine ⟨rfl, by simp, ?_⟩
    intro c hc
    simp at hc
    subst hc
    right
    simp [digitB] at *
    omega
   ·split at h
    ·rename_i hn
     cases h
     obtain ⟨h1, h2⟩ := pWhile_took digitB 2 q
     refine ⟨by simp; exact h1, by simp, ?_⟩
     intro c hc
     rcases List.mem_cons.1 hc with rfl | hc
     ·right; exact digit_iff.2 (.inl hn)
     ·right; exact h2 c hc
    ·cases h
theorem pMore_took {α : Type} {W : α → Prop} {u : α → Tx} {f : Tx → Rd α} (hf : ∀ s x r, f s = .got x r → s = u x ++ r ∧ W x) : ∀ (n : Nat) (s : Tx) (xs : List α) (r : Tx), pMore f n s = .got xs r →
  s = uMore (xs.map u) ++ r ∧ xs.length ≤ n ∧ ∀ x ∈ xs, W x := by
 intro n
 induction n with
 | zero => intro s xs r h; cases h; simp [uMore]
 | succ n ih =>
  intro s xs r h
  cases s with
  | nil => cases h; simp [uMore]
  | cons b q =>
   unfold pMore at h
   split at h
   ·rename_i hb
    obtain ⟨x, q1, h1, h2⟩ := bnd_got h
    obtain ⟨ys, q2, h3, h4⟩ := bnd_got h2
    cases h4
    obtain ⟨g1, g2⟩ := hf _ _ _ h1
    obtain ⟨g3, g4, g5⟩ := ih _ _ _ h3
    refine ⟨?_, by simp; omega, ?_⟩
    ·rw [byte_eq 44 hb, g1, g3]; simp [uMore]
    ·intro y hy
     rcases List.mem_cons.1 hy with rfl | hy
     ·exact g2
     ·exact g5 y hy
   ·cases h; simp [uMore]
theorem pAtom_took {nt : Bool} {s r : Tx} {a : RAtom} (h : pAtom nt s = .got a r) : s = uAtom a ++ r ∧ WAtom a ∧ a.nt = nt := by
 unfold pAtom pArgs at h
 obtain ⟨p, q1, h1, h⟩ := bnd_got h
 obtain ⟨_, q2, h2, h⟩ := bnd_got h
 obtain ⟨t, q3, h3, h⟩ := bnd_got h
 obtain ⟨ts, q4, h4, h⟩ := bnd_got h
 obtain ⟨_, q5, h5, h⟩ := bnd_got h
 cases h
 obtain ⟨a1, a2⟩ := pName_took h1
 have a3 := pByte_got (c := 40) h2
 obtain ⟨a4, a5⟩ := pTerm_took h3
 obtain ⟨a6, a7, a8⟩ := pMore_took (u := id) (fun s x r h => pTerm_took h) _ _ _ _ h4
 have a9 := pByte_got (c := 41) h5
 refine ⟨?_, ⟨a2, by simp, by simp; omega, ?_⟩, rfl⟩
 ·rw [a1, a3, a4, a6, a9]; simp [uAtom, uList]
 ·intro y hy
  rcases List.mem_cons.1 hy with rfl | hy
  ·exact a5
  ·exact a8 y hy
theorem pLit_took {s r : Tx} {a : RAtom} (h : pLit s = .got a r) : s = uLit a ++ r ∧ WAtom a := by
 cases s with
 | nil => cases h
 | cons b q =>
  unfold pLit at h
  dsimp only at h
  split at h
  ·rename_i hb
   obtain ⟨h1, h2, h3⟩ := pAtom_took h
   exact ⟨by rw [byte_eq 33 hb, h1]; simp [uLit, h3], h2⟩
  ·obtain ⟨h1, h2, h3⟩ := pAtom_took h
   exact ⟨by rw [h1]; simp [uLit, h3], h2⟩
theorem pItem_took {s r : Tx} {x : RItem} (h : pItem s = .got x r) : s = uItem x ++ 46 :: r ∧ WItem x := by
 cases s with
 | nil => cases h
 | cons b q =>
  unfold pItem at h
  dsimp only at h
  split at h
  ·rename_i hb
   unfold pOut at h
   obtain ⟨p, q1, h1, h⟩ := bnd_got h
   obtain ⟨_, q2, h2, h⟩ := bnd_got h
   cases h
   obtain ⟨a1, a2⟩ := pName_took h1
   have a3 := pByte_got (c := 46) h2
   exact ⟨by rw [byte_eq 63 hb, a1, a3]; simp [uItem], a2, by simp, by simp⟩
  ·unfold pRule at h
   obtain ⟨hd, q1, h1, h⟩ := bnd_got h
   obtain ⟨a1, a2, a3⟩ := pAtom_took h1
   cases q1 with
   | nil => cases h
   | cons c q2 =>
    unfold pTail at h
    dsimp only at h
    split at h
    ·rename_i hc
     cases h
     exact ⟨by rw [a1, byte_eq 46 hc]; simp [uItem, uRule], a2.1, by simp, fun _ => ⟨a2, a3, by simp, by simp⟩⟩
    ·unfold pBody at h
     obtain ⟨_, q3, h2, h⟩ := bnd_got h
     obtain ⟨_, q4, h3, h⟩ := bnd_got h
     obtain ⟨l, q5, h4, h⟩ := bnd_got h
     obtain ⟨ls, q6, h5, h⟩ := bnd_got h
     obtain ⟨_, q7, h6, h⟩ := bnd_got h
     cases h
     have b1 := pByte_got (c := 58) h2
     have b2 := pByte_got (c := 45) h3
     obtain ⟨b3, b4⟩ := pLit_took h4
     obtain ⟨b5, b6, b7⟩ := pMore_took (fun s x r h => pLit_took h) _ _ _ _ h5
     have b8 := pByte_got (c := 46) h6
     refine ⟨by rw [a1, b1, b2, b3, b5, b8]; simp [uItem, uRule, uList], a2.1, by simp, fun _ => ⟨a2, a3, by simp; omega, ?_⟩⟩
     intro y hy
     rcases List.mem_cons.1 hy with rfl | hy
     ·exact b4
     ·exact b7 y hy
def uItems (l : List RItem) : Tx := l.flatMap fun x => uItem x ++ [46]
theorem pItems_took : ∀ (n : Nat) (s : Tx) (l : List RItem) (r : Tx), pItems n s = .got l r → s = uItems l ∧ r = [] ∧ l.length ≤ n ∧ ∀ x ∈ l, WItem x := by
 intro n
 induction n with
 | zero =>
  intro s l r h
  cases s with
  | nil => cases h; simp [uItems]
  | cons b q => cases h
 | succ n ih =>
  intro s l r h
  cases s with
  | nil => cases h; simp [uItems]
  | cons b q =>
   unfold pItems at h
   obtain ⟨x, q1, h1, h⟩ := bnd_got h
   obtain ⟨xs, q2, h2, h⟩ := bnd_got h
   cases h
   obtain ⟨a1, a2⟩ := pItem_took h1
   obtain ⟨b1, b2, b3, b4⟩ := ih _ _ _ h2
   refine ⟨by rw [a1, b1]; simp [uItems], b2, by simp; omega, ?_⟩
   intro y hy
   rcases List.mem_cons.1 hy with rfl | hy
   ·exact a2
   ·exact b4 y hy
end Go.Proofs.YtmoeoppbmhfbpaaGreatDoorB
