import Derived.Test.YtilaanolklhkaaaGreatDoorZRefF
import Derived.Test.YtilaanolklhkaaaGreatDoorZRefE
/- The words of a program: a reader that goes down, held against the document's scanner. -/
namespace Go.Proofs.YtilaanolklhkaaaGreatDoorZ
open Go.Abs
set_option linter.unusedSimpArgs false
set_option linter.unusedVariables false

abbrev Tx := List UInt8
inductive Rd (α : Type) where
  | bad (e : Tx)
  | got (x : α) (r : Tx)
def Rd.bnd {α β : Type} : Rd α → (α → Tx → Rd β) → Rd β
  | .bad e, _ => .bad e
  | .got x r, f => f x r
def digitB (c : Int) : Bool := decide (48 ≤ c) && decide (c ≤ 57)
def pByte (c : Int) : Tx → Rd Unit
  | [] => .bad []
  | b :: r => if ((b.toNat : Int) == c) = true then .got () r else .bad (b :: r)
def pWhile (p : Int → Bool) : Nat → Tx → Tx × Tx
  | 0, s => ([], s)
  | _ + 1, [] => ([], [])
  | n + 1, b :: r => if p b.toNat = true then (b :: (pWhile p n r).1, (pWhile p n r).2) else ([], b :: r)
def pName (s : Tx) : Rd Tx := if (pWhile smallB 6 s).1 = [] then .bad s else .got (pWhile smallB 6 s).1 (pWhile smallB 6 s).2
def pTerm : Tx → Rd Tx
  | [] => .bad []
  | b :: r => if largeB b.toNat = true then .got [b] r else if ((b.toNat : Int) == 48) = true then .got [b] r
    else if nineB b.toNat = true then .got (b :: (pWhile digitB 2 r).1) (pWhile digitB 2 r).2 else .bad (b :: r)
def pMore {α : Type} (f : Tx → Rd α) : Nat → Tx → Rd (List α)
  | 0, s => .got [] s
  | _ + 1, [] => .got [] []
  | n + 1, b :: r => if ((b.toNat : Int) == 44) = true then
      (f r).bnd fun x r1 => (pMore f n r1).bnd fun xs r2 => .got (x :: xs) r2
    else .got [] (b :: r)
def pArgs (nt : Bool) (p : Tx) (s : Tx) : Rd RAtom :=
  (pTerm s).bnd fun t r => (pMore pTerm 2 r).bnd fun ts r => (pByte 41 r).bnd fun _ r => .got { nt := nt, pred := p, terms := t :: ts } r
def pAtom (nt : Bool) (s : Tx) : Rd RAtom :=
  (pName s).bnd fun p r => (pByte 40 r).bnd fun _ r => pArgs nt p r
def pLit : Tx → Rd RAtom
  | [] => .bad []
  | b :: r => if ((b.toNat : Int) == 33) = true then pAtom true r else pAtom false (b :: r)
def pBody (h : RAtom) (s : Tx) : Rd RItem :=
  (pLit s).bnd fun l r => (pMore pLit 4 r).bnd fun ls r => (pByte 46 r).bnd fun _ r => .got { out := false, head := h, body := l :: ls } r
def pTail (h : RAtom) : Tx → Rd RItem
  | [] => .bad []
  | b :: r => if ((b.toNat : Int) == 46) = true then .got { out := false, head := h, body := [] } r else
      (pByte 58 (b :: r)).bnd fun _ r => (pByte 45 r).bnd fun _ r => pBody h r
def pRule (s : Tx) : Rd RItem := (pAtom false s).bnd fun h r => pTail h r
def pOut (s : Tx) : Rd RItem :=
  (pName s).bnd fun p r => (pByte 46 r).bnd fun _ r => .got { out := true, head := { nt := false, pred := p, terms := [] }, body := [] } r
def pItem : Tx → Rd RItem
  | [] => .bad []
  | b :: r => if ((b.toNat : Int) == 63) = true then pOut r else pRule (b :: r)
def pItems : Nat → Tx → Rd (List RItem)
  | _, [] => .got [] []
  | 0, s => .bad s
  | n + 1, s => (pItem s).bnd fun x r => (pItems n r).bnd fun xs r => .got (x :: xs) r

/-! ### The scanner, by what is left of the text -/
def stop : Scan → Tx → Option Tx
  | X, [] => if X.st != 0 then some [] else none
  | X, c :: r => if (stepS X c).2 = true then stop (stepS X c).1 r else some (c :: r)
theorem runS_stop : ∀ (s : Tx) (X : Scan) (i : Nat),
    (match (runS X s i).2 with | some j => (j : Int) | none => if (runS X s i).1.st != 0 then ((i + s.length : Nat) : Int) else -1) = match stop X s with | some r => ((i + s.length - r.length : Nat) : Int) | none => -1 := by
  intro s
  induction s with
  | nil => intro X i; simp only [runS, stop]; split <;> simp_all
  | cons c r ih =>
    intro X i
    unfold runS stop
    by_cases h : (stepS X c).2 = true
    · simp only [h, if_true]
      have := ih (stepS X c).1 (i + 1)
      rw [show i + (c :: r).length = i + 1 + r.length by simp; omega]
      exact this
    · simp only [h]
      simp
theorem placeL_stop (s : Tx) : placeL s = match stop scan0 s with | some r => ((s.length - r.length : Nat) : Int) | none => -1 := by
  have := runS_stop s scan0 0
  unfold placeL
  rw [Nat.zero_add] at this
  rw [← this]
  rfl

def Via {α : Type} (P : Scan → Prop) (res : Rd α) (o : Option Tx) : Prop :=
  match res with
  | .bad e => o = some e
  | .got _ r => ∃ X', P X' ∧ o = stop X' r
theorem Via.bind {α β : Type} {P Q : Scan → Prop} {res : Rd α} {o : Option Tx} {f : α → Tx → Rd β} (h : Via P res o) (k : ∀ x r X', P X' → Via Q (f x r) (stop X' r)) : Via Q (res.bnd f) o := by
  cases res with
  | bad e => exact h
  | got x r =>
    obtain ⟨X', hP, rfl⟩ := h
    exact k x r X' hP
theorem Via.ret {α : Type} {P : Scan → Prop} {x : α} {r : Tx} {X : Scan} (h : P X) : Via P (.got x r) (stop X r) := ⟨X, h, rfl⟩
theorem Via.err {α : Type} {P : Scan → Prop} {e : Tx} {o : Option Tx} (h : o = some e) : Via (α := α) P (.bad e) o := h
theorem Via.mono {α : Type} {P Q : Scan → Prop} {res : Rd α} {o : Option Tx} (h : Via P res o) (k : ∀ X, P X → Q X) : Via Q res o := by
  cases res with
  | bad e => exact h
  | got x r =>
    obtain ⟨X', hP, e⟩ := h
    exact ⟨X', k _ hP, e⟩

theorem stop_go {X : Scan} {c : UInt8} {r : Tx} (h : (stepS X c).2 = true) : stop X (c :: r) = stop (stepS X c).1 r := by
  rw [stop, if_pos h]
theorem stop_no {X : Scan} {c : UInt8} {r : Tx} (h : (stepS X c).2 = false) : stop X (c :: r) = some (c :: r) := by
  rw [stop, if_neg (by simp [h])]
theorem stop_nil {X : Scan} (h : X.st ≠ 0) : stop X [] = some [] := by
  rw [stop, if_pos (by simpa using h)]

/-- of the same item -/
def same3 (X X' : Scan) : Prop := X'.items = X.items ∧ X'.lits = X.lits ∧ X'.head = X.head

/-- within a name of an atom -/
theorem via_name : ∀ (n : Nat) (s : Tx) (X : Scan), X.st = 5 → X.letters = 6 - (n : Int) → n ≤ 6 →
    Via (fun X' => X'.st = 6 ∧ X'.terms = 0 ∧ same3 X X') (pByte 40 (pWhile smallB n s).2) (stop X s) := by
  intro n
  induction n with
  | zero =>
    intro s X h5 hl hn
    cases s with
    | nil => exact Via.err (stop_nil (by omega))
    | cons b r =>
      unfold pWhile pByte
      simp only
      by_cases hb : ((b.toNat : Int) == 40) = true
      · rw [if_pos hb]
        have e : stepS X b = ({ X with terms := 0, st := 6 }, true) := by
          simp [stepS, innerF, h5, hl, hb]
        rw [stop_go (by rw [e]), e]
        exact Via.ret ⟨rfl, rfl, rfl, rfl, rfl⟩
      · rw [if_neg hb]
        refine Via.err (stop_no ?_)
        simp [stepS, innerF, h5, hl, hb]
  | succ n ih =>
    intro s X h5 hl hn
    cases s with
    | nil => exact Via.err (stop_nil (by omega))
    | cons b r =>
      unfold pWhile
      by_cases hs : smallB b.toNat = true
      · rw [if_pos hs]
        have e : stepS X b = ({ X with letters := X.letters + 1 }, true) := by
          simp [stepS, innerF, h5, hs]
          omega
        rw [stop_go (by rw [e]), e]
        exact ih r { X with letters := X.letters + 1 } h5 (by simp; omega) (by omega)
      · rw [if_neg hs]
        unfold pByte
        simp only
        by_cases hb : ((b.toNat : Int) == 40) = true
        · rw [if_pos hb]
          have e : stepS X b = ({ X with terms := 0, st := 6 }, true) := by
            simp [stepS, innerF, h5, hs, hb]
          rw [stop_go (by rw [e]), e]
          exact Via.ret ⟨rfl, rfl, rfl, rfl, rfl⟩
        · rw [if_neg hb]
          refine Via.err (stop_no ?_)
          simp [stepS, innerF, h5, hs, hb]
end Go.Proofs.YtilaanolklhkaaaGreatDoorZ
