import Derived.Test.YtmoeoppbmhfbpaaGreatDoorBFacts
/- The document's own answer: the states of a text. -/
namespace Go.Proofs.YtmoeoppbmhfbpaaGreatDoorB
open Go.Abs
set_option linter.unusedSimpArgs false
set_option linter.unusedVariables false
set_option maxRecDepth 100000
def smallB (c : Int) : Bool := decide (97 ≤ c) && decide (c ≤ 122)
def largeB (c : Int) : Bool := decide (65 ≤ c) && decide (c ≤ 90)
def nineB (c : Int) : Bool := decide (49 ≤ c) && decide (c ≤ 57)
structure Scan where
 st : Int
 items : Int
 letters : Int
 digits : Int
 terms : Int
 lits : Int
 head : Bool
structure KeepX (o : Nat) (σ σ' : St) : Prop where
 nobj : σ.nobj ≤ σ'.nobj
 obj : ∀ p, p < σ.nobj → p ≠ o → σ'.obj p = σ.obj p
 ver : ∀ p, p < σ.nobj → p ≠ o → σ'.ver p = σ.ver p
 ntop : σ.ntop ≤ σ'.ntop
 top : ∀ k, k < σ.ntop → σ'.top k = σ.top k
theorem KeepX.refl (o : Nat) (σ : St) : KeepX o σ σ := ⟨Nat.le_refl _, fun _ _ _ => rfl, fun _ _ _ => rfl, Nat.le_refl _, fun _ _ => rfl⟩
theorem KeepX.put {o : Nat} {σ σ' : St} (h : KeepX o σ σ') (cs : List AV) : KeepX o σ (σ'.put o cs) :=
 ⟨h.nobj, fun p hp hne => by simp [St.put, hne]; exact h.obj p hp hne, fun p hp hne => by simp [St.put, hne]; exact h.ver p hp hne, h.ntop, h.top⟩
theorem KeepX.trans {o : Nat} {a b c : St} (h : KeepX o a b) (k : KeepX o b c) : KeepX o a c :=
 ⟨Nat.le_trans h.nobj k.nobj, fun p hp hne => (k.obj p (Nat.lt_of_lt_of_le hp h.nobj) hne).trans (h.obj p hp hne), fun p hp hne => (k.ver p (Nat.lt_of_lt_of_le hp h.nobj) hne).trans (h.ver p hp hne),
  Nat.le_trans h.ntop k.ntop, fun j hj => (k.top j (Nat.lt_of_lt_of_le hj h.ntop)).trans (h.top j hj)⟩
def innerF (X : Scan) (c : Int) : Scan × Bool :=
 if (X.st == 5) = true then
  if smallB c = true ∧ decide (X.letters < 6) = true then ({ X with letters := X.letters + 1 }, true)
  else if (c == 40) = true then ({ X with terms := 0, st := 6 }, true) else ({ X with terms := 0 }, false)
 else if (X.st == 6) = true then
  if nineB c = true then ({ X with terms := X.terms + 1, digits := 1, st := 7 }, true)
  else if largeB c = true ∨ (c == 48) = true then ({ X with terms := X.terms + 1, digits := 1, st := 8 }, true) else ({ X with terms := X.terms + 1, digits := 1 }, false)
 else if (X.st == 7) = true ∧ decide (X.digits < 3) = true ∧ (nineB c = true ∨ (c == 48) = true) then ({ X with digits := X.digits + 1 }, true)
 else if (c == 41) = true then ({ X with lits := if (!X.head) = true then X.lits + 1 else X.lits, st := 9 }, true)
 else if (c == 44) = true ∧ decide (X.terms < 3) = true then ({ X with st := 6 }, true) else (X, false)
def outerF (X : Scan) (c : Int) : Scan × Bool :=
 if (X.st == 0) = true then
  if (X.items == 16) = true then (X, false)
  else if (c == 63) = true then ({ X with head := true, letters := 0, lits := 0, st := 1 }, true)
  else if smallB c = true then ({ X with head := true, letters := 1, lits := 0, st := 5 }, true) else ({ X with head := true, letters := 1, lits := 0 }, false)
 else if (X.st == 1) = true ∨ (X.st == 2) = true then
  if smallB c = true ∧ decide (X.letters < 6) = true then ({ X with letters := X.letters + 1, st := 2 }, true)
  else if (c == 46) = true ∧ (X.st == 2) = true then ({ X with items := X.items + 1, st := 0 }, true) else (X, false)
 else if (X.st == 3) = true ∨ (X.st == 4) = true then
  if (c == 33) = true ∧ (X.st == 3) = true then ({ X with letters := 1, st := 4 }, true)
  else if smallB c = true then ({ X with letters := 1, st := 5 }, true) else ({ X with letters := 1 }, false)
 else if (X.st == 10) = true then
  if (c == 45) = true then ({ X with head := false, st := 3 }, true) else ({ X with head := false }, false)
 else if (c == 46) = true then ({ X with items := X.items + 1, st := 0 }, true)
 else if (c == 58) = true ∧ X.head = true then ({ X with st := 10 }, true)
 else if (c == 44) = true ∧ (!X.head) = true ∧ decide (X.lits < 5) = true then ({ X with st := 3 }, true) else (X, false)
/- The document's own answer: a text is cut. -/
def findN (l : List UInt8) (c : Int) : Nat := l.findIdx fun x => (x.toNat : Int) == c
def cutAux (c : Int) : List UInt8 → Bool → List UInt8 → List (List UInt8)
 | [], _, cur => if cur = [] then [] else [cur]
 | b :: r, deep, cur =>
  let d1 := if ((b.toNat : Int) == 40) = true then true else deep
  let d2 := if ((b.toNat : Int) == 41) = true then false else d1
  if ((b.toNat : Int) == c) = true ∧ d2 = false then cur :: cutAux c r d2 [] else cutAux c r d2 (cur ++ [b])
def cutL (s : List UInt8) (c : Int) : List (List UInt8) := cutAux c s false []
/- The document's own answer: atoms and items of a text. -/
structure RAtom where
 nt : Bool
 pred : List UInt8
 terms : List (List UInt8)
structure RItem where
 out : Bool
 head : RAtom
 body : List RAtom
def bangB : List UInt8 → Bool
 | [] => false
 | b :: _ => (b.toNat : Int) == 33
def unbang (s : List UInt8) : List UInt8 := if bangB s then (s.drop 1).take (s.length - 1) else s
def atomU (nt : Bool) (s : List UInt8) : RAtom :=
 { nt := nt, pred := (s.drop 0).take (findN s 40 - 0), terms := if findN s 40 + 1 < s.length then cutL ((s.drop (findN s 40 + 1)).take (s.length - 1 - (findN s 40 + 1))) 44 else [] }
def atomL (s : List UInt8) : RAtom := atomU (bangB s) (unbang s)
/- The document's own answer: what is asked of items. -/
theorem any_take_succ {α : Type} {l : List α} {k : Nat} {a : α} (p : α → Bool) (h : l[k]? = some a) : (l.take (k + 1)).any p = ((l.take k).any p || p a) := by
 rw [List.take_add_one, h]; simp
theorem any_hit {α : Type} {l : List α} {k : Nat} {a : α} (p : α → Bool) (h : l[k]? = some a) (hp : p a = true) : l.any p = true :=
 List.any_eq_true.2 ⟨a, List.mem_of_getElem? h, hp⟩
def variableB : List UInt8 → Bool
 | [] => false
 | b :: _ => largeB b.toNat
def atomsL (x : RItem) : List RAtom := (if x.out = true then [] else [x.head]) ++ x.body
def boundB (x : RItem) (t : List UInt8) : Bool := x.body.any fun a => a.terms.any fun u => !a.nt && u == t
theorem map_str_get {l : List (List UInt8)} {k : Nat} (h : k < l.length) : (l.map str).drop k = str l[k] :: (l.map str).drop (k + 1) := by
 rw [List.drop_eq_getElem_cons (by simpa using h)]; simp
/- The document's own answer: safe rules. -/
def badT (x : RItem) (t : List UInt8) : Bool := variableB t && !boundB x t
def badA (x : RItem) (a : RAtom) : Bool := a.terms.any (badT x)
def safeB (x : RItem) : Bool := !(atomsL x).any (badA x)
def RItem.fits (x : RItem) : Prop := x.body.length ≤ 1000 ∧ x.head.terms.length ≤ 1000 ∧ ∀ a ∈ x.body, a.terms.length ≤ 1000
/- The document's own answer: the place of the first byte that cannot stand there. -/
def scan0 : Scan := ⟨0, 0, 0, 0, 0, 0, false⟩
def stepS (X : Scan) (c : UInt8) : Scan × Bool :=
 if decide (5 ≤ X.st) = true ∧ decide (X.st ≤ 8) = true then innerF X c.toNat else outerF X c.toNat
def runS : Scan → List UInt8 → Nat → Scan × Option Nat
 | X, [], _ => (X, none)
 | X, c :: r, i => if (stepS X c).2 = true then runS (stepS X c).1 r (i + 1) else ((stepS X c).1, some i)
def placeL (s : List UInt8) : Int :=
 match (runS scan0 s 0).2 with
 | some i => i
 | none => if (runS scan0 s 0).1.st != 0 then s.length else -1
/- The document's own answer: which rule comes to which. -/
def set2 (M : Nat → Nat → Bool) (i k : Nat) (v : Bool) : Nat → Nat → Bool := fun a b => if a = i ∧ b = k then v else M a b
def edge (l : List RItem) (i k : Nat) : Bool :=
 match l[i]?, l[k]? with
 | some x, some y => !y.out && x.body.any fun a => a.pred == y.head.pred
 | _, _ => false
def fw (M : Nat → Nat → Bool) (m : Nat) : Nat → Nat → Bool := fun i k => M i k || (M i m && M m k)
def fwN (n : Nat) (M : Nat → Nat → Bool) (m : Nat) : Nat → Nat → Bool := fun i k => if i < n ∧ k < n then fw M m i k else M i k
def fwR (n : Nat) (M : Nat → Nat → Bool) : Nat → Nat → Nat → Bool
 | 0 => M
 | m + 1 => fwN n (fwR n M m) m
def part (n : Nat) (M : Nat → Nat → Bool) (m i k : Nat) (W : Nat → Nat → Bool) : Prop := ∀ a b, W a b = if (a < i ∧ b < n) ∨ (a = i ∧ b < k) then fw M m a b else M a b
def webM (l : List RItem) : Nat → Nat → Bool := fwR l.length (fun a b => if a < l.length ∧ b < l.length then edge l a b else false) l.length
theorem part_val {n : Nat} {M W : Nat → Nat → Bool} {m i k : Nat} (h : part n M m i k W) (hk : k < n) (hm : m < n) : W i k = M i k ∧ W i m = M i m ∧ W m k = M m k := by
 refine ⟨?_, ?_, ?_⟩
 ·rw [h, if_neg (by omega)]
 ·rw [h]; split
  ·unfold fw; cases M i m <;> simp
  ·rfl
 ·rw [h]; split
  ·unfold fw; cases M m k <;> simp
  ·rfl
theorem part_set {n : Nat} {M W : Nat → Nat → Bool} {m i k : Nat} (h : part n M m i k W) {v : Bool} (hv : v = fw M m i k) : part n M m i (k + 1) (set2 W i k v) := by
 intro a b
 unfold set2
 by_cases hab : a = i ∧ b = k
 ·obtain ⟨rfl, rfl⟩ := hab
  rw [if_pos ⟨rfl, rfl⟩, if_pos (by omega)]; exact hv
 ·rw [if_neg hab, h]
  by_cases hc : (a < i ∧ b < n) ∨ (a = i ∧ b < k)
  ·rw [if_pos hc, if_pos (by omega)]
  ·rw [if_neg hc, if_neg (by omega)]
theorem part_row {n : Nat} {M W : Nat → Nat → Bool} {m i : Nat} (h : part n M m i n W) : part n M m (i + 1) 0 W := by
 intro a b; rw [h]
 by_cases hc : (a < i ∧ b < n) ∨ (a = i ∧ b < n)
 ·rw [if_pos hc, if_pos (by omega)]
 ·rw [if_neg hc, if_neg (by omega)]
theorem part_zero {n : Nat} {M : Nat → Nat → Bool} {m : Nat} : part n M m 0 0 M := by intro a b; rw [if_neg (by omega)]
theorem part_all {n : Nat} {M W : Nat → Nat → Bool} {m : Nat} (h : part n M m n 0 W) : W = fwN n M m := by
 funext a b; rw [h]; unfold fwN
 by_cases hc : a < n ∧ b < n
 ·rw [if_pos (by omega), if_pos hc]
 ·rw [if_neg (by omega), if_neg hc]
/- The document's own answer: uses, knots, odd numbers of terms, what is wrong. -/
def headOf (l : List RItem) (i : Nat) : List UInt8 := match l[i]? with | some x => x.head.pred | none => []
def hitU (l : List RItem) (p q : List UInt8) (i k : Nat) : Bool := webM l i k && headOf l i == p && headOf l k == q
def usesB (l : List RItem) (p q : List UInt8) : Bool := (List.range l.length).any fun i => (List.range l.length).any fun k => hitU l p q i k
/- The document's own answer: the first number. -/
def firstN (p : Nat → Bool) (n : Nat) : Int := match (List.range n).find? p with | some i => (i : Int) | none => -1
theorem firstN_hit {p : Nat → Bool} {n i : Nat} (hi : i < n) (hp : p i = true) (hn : ∀ a, a < i → p a = false) : firstN p n = i := by
 unfold firstN
 have : (List.range n).find? p = some i := by
  rw [List.find?_range_eq_some]
  exact ⟨hp, by simpa using hi, fun a ha => by simp [hn a ha]⟩
 rw [this]
theorem firstN_none {p : Nat → Bool} {n : Nat} (hn : ∀ a, a < n → p a = false) : firstN p n = -1 := by
 unfold firstN
 have : (List.range n).find? p = none := by
  rw [List.find?_eq_none]
  intro a ha
  simp [hn a (by simpa using ha)]
 rw [this]
/- The document's own answer: knots. -/
def badK (l : List RItem) (h : List UInt8) (a : RAtom) : Bool := a.nt && (a.pred == h || usesB l a.pred h)
def knotP (l : List RItem) (i : Nat) : Bool := match l[i]? with | some x => x.body.any (badK l x.head.pred) | none => false
/- The document's own answer: odd numbers of terms. -/
def clash (a b : RAtom) : Bool := b.pred == a.pred && decide (b.terms.length ≠ a.terms.length)
def priorL (l : List RItem) (i : Nat) : List RAtom := (l.take i).flatMap atomsL
def seenL (l : List RItem) (x : RItem) (i j : Nat) : List RAtom := priorL l i ++ (atomsL x).take j
def oddAt (l : List RItem) (x : RItem) (i j : Nat) : Bool := match (atomsL x)[j]? with | some a => (seenL l x i j).any (clash a) | none => false
def oddP (l : List RItem) (i : Nat) : Bool := match l[i]? with | some x => (List.range (atomsL x).length).any (oddAt l x i) | none => false
def noO (l : List RItem) (i : Nat) : Prop := ∀ a, a < i → oddP l a = false
def noOj (l : List RItem) (x : RItem) (i j : Nat) : Prop := ∀ b, b < j → oddAt l x i b = false
theorem seen_succ {l : List RItem} {x : RItem} {i j : Nat} {a : RAtom} (h : (atomsL x)[j]? = some a) : seenL l x i (j + 1) = seenL l x i j ++ [a] := by
 unfold seenL; rw [List.take_add_one, h, List.append_assoc]; rfl
theorem seen_next {l : List RItem} {x : RItem} {i : Nat} (h : l[i]? = some x) : seenL l x i (atomsL x).length = seenL l x (i + 1) 0 := by
 unfold seenL priorL; rw [List.take_length, List.take_add_one, h, List.take_zero, List.append_nil]; simp
theorem RItem.fits.atoms {x : RItem} (h : x.fits) : (atomsL x).length ≤ 1001 := by
 obtain ⟨f1, f2, f3⟩ := h
 unfold atomsL; split <;> simp <;> omega
/- The document's own answer: what is wrong. -/
def unsafeP (l : List RItem) (i : Nat) : Bool := match l[i]? with | some x => !safeB x | none => false
def wrongM (l : List RItem) : Int × Int :=
 if 0 ≤ firstN (oddP l) l.length then (3, firstN (oddP l) l.length)
 else if 0 ≤ firstN (unsafeP l) l.length then (4, firstN (unsafeP l) l.length)
 else if 0 ≤ firstN (knotP l) l.length then (5, firstN (knotP l) l.length)
 else (0, 0)
abbrev two (p : Int × Int) : AV := tp [sc (.int .i64 p.1), sc (.int .i64 p.2)]
theorem firstN_ge {p : Nat → Bool} {n : Nat} : -1 ≤ firstN p n := by
 unfold firstN
 split <;> omega
/- The document's own answer: the items of a text. -/
def queryB : List UInt8 → Bool
 | [] => false
 | b :: _ => (b.toNat : Int) == 63
def outL (t : List UInt8) : RItem := { out := true, head := { nt := false, pred := (t.drop 1).take (t.length - 1), terms := [] }, body := [] }
def ruleL (t : List UInt8) : RItem :=
 { out := false, head := atomL ((t.drop 0).take (findN t 58 - 0)), body := if findN t 58 < t.length then (cutL ((t.drop (findN t 58 + 2)).take (t.length - (findN t 58 + 2))) 44).map atomL else [] }
def itemL (t : List UInt8) : RItem := if queryB t then outL t else ruleL t
def itemsL (s : List UInt8) : List RItem := (cutL s 46).map itemL
def pieceOk (t : List UInt8) : Prop := t.length ≤ 1000 ∧ t ≠ [] ∧ (queryB t = false → findN t 58 < t.length → findN t 58 + 2 ≤ t.length)
theorem cutAux_piece (c : Int) : ∀ (s : List UInt8) (d : Bool) (cur : List UInt8), ∀ t ∈ cutAux c s d cur, t.length ≤ cur.length + s.length
 | [], d, cur => by
  unfold cutAux; split
  ·intro t ht; cases ht
  ·intro t ht; simp at ht; subst ht; simp
 | b :: r, d, cur => by
  unfold cutAux
  all_goals
   simp only []
   generalize (if ((b.toNat : Int) == 41) = true then false else _) = d2
   split
   ·intro t ht
    rcases List.mem_cons.1 ht with rfl | ht
    ·simp
    ·have := cutAux_piece c r d2 [] t ht; simp at this ⊢; omega
   ·intro t ht
    have := cutAux_piece c r d2 (cur ++ [b]) t ht; simp at this ⊢; omega
theorem cutL_piece {s : List UInt8} {c : Int} {t : List UInt8} (h : t ∈ cutL s c) : t.length ≤ s.length := by
 have := cutAux_piece c s false [] t h; simpa using this
/- The document's own answer: Check. -/
def goodText (s : List UInt8) : Prop := (cutL s 46).length ≤ 16 ∧ ∀ t ∈ cutL s 46, pieceOk t
def refCheck (s : List UInt8) : Int × Int :=
 if 600 < s.length then (1, 0) else if 0 ≤ placeL s then (2, placeL s) else wrongM (itemsL s)
end Go.Proofs.YtmoeoppbmhfbpaaGreatDoorB
