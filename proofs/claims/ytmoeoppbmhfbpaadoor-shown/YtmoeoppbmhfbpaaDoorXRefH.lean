import Derived.Test.YtmoeoppbmhfbpaaDoorXRefA
/- The document's own answer: uses, knots, odd numbers of terms, what is wrong. -/
namespace Go.Proofs.YtmoeoppbmhfbpaaDoorX
open Go.Abs
set_option linter.unusedSimpArgs false
set_option linter.unusedVariables false
set_option maxRecDepth 100000

def headOf (l : List RItem) (i : Nat) : List UInt8 := match l[i]? with | some x => x.head.pred | none => []
def hitU (l : List RItem) (p q : List UInt8) (i k : Nat) : Bool := webM l i k && headOf l i == p && headOf l k == q
def usesB (l : List RItem) (p q : List UInt8) : Bool := (List.range l.length).any fun i => (List.range l.length).any fun k => hitU l p q i k
/- The document's own answer: the first number. -/

def firstN (p : Nat → Bool) (n : Nat) : Int := match (List.range n).find? p with | some i => (i : Int) | none => -1
theorem firstN_hit {p : Nat → Bool} {n i : Nat} (hi : i < n) (hp : p i = true) (hn : ∀ a, a < i → p a = false) : firstN p n = i := by
  unfold firstN
  have : (List.range n).find? p = some i := by
    rw [List.find?_range_eq_some]
    exact ⟨hp, by simpa using hi, fun a ha => by simp [hn a ha]⟩
  rw [this]
theorem firstN_none {p : Nat → Bool} {n : Nat} (hn : ∀ a, a < n → p a = false) : firstN p n = -1 := by
  unfold firstN
  have : (List.range n).find? p = none := by
    rw [List.find?_eq_none]
    intro a ha
    simp [hn a (by simpa using ha)]
  rw [this]
/- The document's own answer: knots. -/

def badK (l : List RItem) (h : List UInt8) (a : RAtom) : Bool := a.nt && (a.pred == h || usesB l a.pred h)
def knotP (l : List RItem) (i : Nat) : Bool := match l[i]? with | some x => x.body.any (badK l x.head.pred) | none => false
/- The document's own answer: odd numbers of terms. -/

def clash (a b : RAtom) : Bool := b.pred == a.pred && decide (b.terms.length ≠ a.terms.length)
def priorL (l : List RItem) (i : Nat) : List RAtom := (l.take i).flatMap atomsL
def seenL (l : List RItem) (x : RItem) (i j : Nat) : List RAtom := priorL l i ++ (atomsL x).take j
def oddAt (l : List RItem) (x : RItem) (i j : Nat) : Bool := match (atomsL x)[j]? with | some a => (seenL l x i j).any (clash a) | none => false
def oddP (l : List RItem) (i : Nat) : Bool := match l[i]? with | some x => (List.range (atomsL x).length).any (oddAt l x i) | none => false
def noO (l : List RItem) (i : Nat) : Prop := ∀ a, a < i → oddP l a = false
def noOj (l : List RItem) (x : RItem) (i j : Nat) : Prop := ∀ b, b < j → oddAt l x i b = false
theorem seen_succ {l : List RItem} {x : RItem} {i j : Nat} {a : RAtom} (h : (atomsL x)[j]? = some a) : seenL l x i (j + 1) = seenL l x i j ++ [a] := by
  unfold seenL; rw [List.take_add_one, h, List.append_assoc]; rfl
theorem seen_next {l : List RItem} {x : RItem} {i : Nat} (h : l[i]? = some x) : seenL l x i (atomsL x).length = seenL l x (i + 1) 0 := by
  unfold seenL priorL; rw [List.take_length, List.take_add_one, h, List.take_zero, List.append_nil]; simp
theorem RItem.fits.atoms {x : RItem} (h : x.fits) : (atomsL x).length ≤ 1001 := by
  obtain ⟨f1, f2, f3⟩ := h
  unfold atomsL; split <;> simp <;> omega
/- The document's own answer: what is wrong. -/

def unsafeP (l : List RItem) (i : Nat) : Bool := match l[i]? with | some x => !safeB x | none => false
def wrongM (l : List RItem) : Int × Int :=
  if 0 ≤ firstN (oddP l) l.length then (3, firstN (oddP l) l.length)
  else if 0 ≤ firstN (unsafeP l) l.length then (4, firstN (unsafeP l) l.length)
  else if 0 ≤ firstN (knotP l) l.length then (5, firstN (knotP l) l.length)
  else (0, 0)
abbrev two (p : Int × Int) : AV := tp [sc (.int .i64 p.1), sc (.int .i64 p.2)]
theorem firstN_ge {p : Nat → Bool} {n : Nat} : -1 ≤ firstN p n := by
  unfold firstN
  split <;> omega

/- The document's own answer: the items of a text. -/

def queryB : List UInt8 → Bool
  | [] => false
  | b :: _ => (b.toNat : Int) == 63
def outL (t : List UInt8) : RItem := { out := true, head := { nt := false, pred := (t.drop 1).take (t.length - 1), terms := [] }, body := [] }
def ruleL (t : List UInt8) : RItem :=
  { out := false, head := atomL ((t.drop 0).take (findN t 58 - 0)),
    body := if findN t 58 < t.length then (cutL ((t.drop (findN t 58 + 2)).take (t.length - (findN t 58 + 2))) 44).map atomL else [] }
def itemL (t : List UInt8) : RItem := if queryB t then outL t else ruleL t
def itemsL (s : List UInt8) : List RItem := (cutL s 46).map itemL
def pieceOk (t : List UInt8) : Prop := t.length ≤ 1000 ∧ t ≠ [] ∧ (queryB t = false → findN t 58 < t.length → findN t 58 + 2 ≤ t.length)

theorem cutAux_piece (c : Int) : ∀ (s : List UInt8) (d : Bool) (cur : List UInt8), ∀ t ∈ cutAux c s d cur, t.length ≤ cur.length + s.length
  | [], d, cur => by
    unfold cutAux; split
    · intro t ht; cases ht
    · intro t ht; simp at ht; subst ht; simp
  | b :: r, d, cur => by
    unfold cutAux
    all_goals
      simp only []
      generalize (if ((b.toNat : Int) == 41) = true then false else _) = d2
      split
      · intro t ht
        rcases List.mem_cons.1 ht with rfl | ht
        · simp
        · have := cutAux_piece c r d2 [] t ht; simp at this ⊢; omega
      · intro t ht
        have := cutAux_piece c r d2 (cur ++ [b]) t ht; simp at this ⊢; omega
theorem cutL_piece {s : List UInt8} {c : Int} {t : List UInt8} (h : t ∈ cutL s c) : t.length ≤ s.length := by
  have := cutAux_piece c s false [] t h; simpa using this
/- The document's own answer: Check. -/

def goodText (s : List UInt8) : Prop := (cutL s 46).length ≤ 16 ∧ ∀ t ∈ cutL s 46, pieceOk t
def refCheck (s : List UInt8) : Int × Int :=
  if 600 < s.length then (1, 0) else if 0 ≤ placeL s then (2, placeL s) else wrongM (itemsL s)

end Go.Proofs.YtmoeoppbmhfbpaaDoorX
