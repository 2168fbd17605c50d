import Derived.Test.YtmoeoppbmhfbpaaGreatDoorYFacts
/- The document's own answer: the states of a text. -/
namespace Go.Proofs.YtmoeoppbmhfbpaaGreatDoorY
open Go.Abs
set_option linter.unusedSimpArgs false
set_option linter.unusedVariables false
set_option maxRecDepth 100000
def smallB (c : Int) : Bool := decide (97 ≤ c) && decide (c ≤ 122)
def largeB (c : Int) : Bool := decide (65 ≤ c) && decide (c ≤ 90)
def nineB (c : Int) : Bool := decide (49 ≤ c) && decide (c ≤ 57)
theorem small_spec (c : Int) (σ : St) : ACalls Tryz.prog 221 [sc (.int .u8 c)] σ fun x σ' => x = sc (.bool (smallB c)) ∧ σ' = σ := by
 refine acalls 9 [.tmp 2] Tryz.func221 rfl (by decide) rfl rfl (Nat.le_of_ble_eq_true rfl) ?_
 repeat' (first
 |with_reducible first|apply Xa|apply Xb|(refine Xc ?_;intro κ hκ)|(apply hκ.out;clear hκ κ)|apply Xd|apply Xe|apply Xf
 |((with_reducible first|refine Xl ?_ ?_|refine Xk ?_ ?_)<;> intro h hari<;> try exact Xp)
 |refine Xr ?_
 |exact True.intro
 |(apply hκ.out;clear hκ κ))
 all_goals exact ⟨_, rfl, by simp [smallB, *]⟩
theorem large_spec (c : Int) (σ : St) : ACalls Tryz.prog 185 [sc (.int .u8 c)] σ fun x σ' => x = sc (.bool (largeB c)) ∧ σ' = σ := by
 refine acalls 9 [.tmp 2] Tryz.func185 rfl (by decide) rfl rfl (Nat.le_of_ble_eq_true rfl) ?_
 repeat' (first
 |with_reducible first|apply Xa|apply Xb|(refine Xc ?_;intro κ hκ)|(apply hκ.out;clear hκ κ)|apply Xd|apply Xe|apply Xf
 |((with_reducible first|refine Xl ?_ ?_|refine Xk ?_ ?_)<;> intro h hari<;> try exact Xp)
 |refine Xr ?_
 |exact True.intro
 |(apply hκ.out;clear hκ κ))
 all_goals exact ⟨_, rfl, by simp [largeB, *]⟩
theorem nine_spec (c : Int) (σ : St) : ACalls Tryz.prog 223 [sc (.int .u8 c)] σ fun x σ' => x = sc (.bool (nineB c)) ∧ σ' = σ := by
 refine acalls 9 [.tmp 2] Tryz.func223 rfl (by decide) rfl rfl (Nat.le_of_ble_eq_true rfl) ?_
 repeat' (first
 |with_reducible first|apply Xa|apply Xb|(refine Xc ?_;intro κ hκ)|(apply hκ.out;clear hκ κ)|apply Xd|apply Xe|apply Xf
 |((with_reducible first|refine Xl ?_ ?_|refine Xk ?_ ?_)<;> intro h hari<;> try exact Xp)
 |refine Xr ?_
 |exact True.intro
 |(apply hκ.out;clear hκ κ))
 all_goals exact ⟨_, rfl, by simp [nineB, *]⟩
structure Scan where
 st : Int
 items : Int
 letters : Int
 digits : Int
 terms : Int
 lits : Int
 head : Bool
def encScan (X : Scan) : List AV := [sc (.int .i64 X.st), sc (.int .i64 X.items), sc (.int .i64 X.letters), sc (.int .i64 X.digits), sc (.int .i64 X.terms), sc (.int .i64 X.lits), sc (.bool X.head)]
theorem to_spec (o : Nat) (st : Int) (a : AV) (r : List AV) (σ : St) (h : σ.obj o = a :: r) : ACalls Tryz.prog 222 [ptr o 0, sc (.int .i64 st)] σ fun x σ' => x = sc (.bool true) ∧ σ' = σ.put o (sc (.int .i64 st) :: r) := by
 refine acalls 9 [.tmp 4] Tryz.func222 rfl (by decide) rfl rfl (Nat.le_of_ble_eq_true rfl) ?_
 repeat' (first
 |with_reducible first|apply Xa|apply Xb|(refine Xc ?_;intro κ hκ)|(apply hκ.out;clear hκ κ)|apply Xd|apply Xe|apply Xf
 |((with_reducible first|refine Xl ?_ ?_|refine Xk ?_ ?_)<;> intro h hari<;> try exact Xp)
 |refine Xr ?_
 |exact True.intro
 |(apply hκ.out;clear hκ κ))
 first | exact ⟨_, rfl, rfl, rfl⟩ | exact ⟨_, rfl, rfl⟩
structure KeepX (o : Nat) (σ σ' : St) : Prop where
 nobj : σ.nobj ≤ σ'.nobj
 obj : ∀ p, p < σ.nobj → p ≠ o → σ'.obj p = σ.obj p
 ver : ∀ p, p < σ.nobj → p ≠ o → σ'.ver p = σ.ver p
 ntop : σ.ntop ≤ σ'.ntop
 top : ∀ k, k < σ.ntop → σ'.top k = σ.top k
theorem KeepX.refl (o : Nat) (σ : St) : KeepX o σ σ := ⟨Nat.le_refl _, fun _ _ _ => rfl, fun _ _ _ => rfl, Nat.le_refl _, fun _ _ => rfl⟩
theorem KeepX.put {o : Nat} {σ σ' : St} (h : KeepX o σ σ') (cs : List AV) : KeepX o σ (σ'.put o cs) :=
 ⟨h.nobj, fun p hp hne => by simp [St.put, hne]; exact h.obj p hp hne, fun p hp hne => by simp [St.put, hne]; exact h.ver p hp hne, h.ntop, h.top⟩
theorem KeepX.trans {o : Nat} {a b c : St} (h : KeepX o a b) (k : KeepX o b c) : KeepX o a c :=
 ⟨Nat.le_trans h.nobj k.nobj, fun p hp hne => (k.obj p (Nat.lt_of_lt_of_le hp h.nobj) hne).trans (h.obj p hp hne), fun p hp hne => (k.ver p (Nat.lt_of_lt_of_le hp h.nobj) hne).trans (h.ver p hp hne),
  Nat.le_trans h.ntop k.ntop, fun j hj => (k.top j (Nat.lt_of_lt_of_le hj h.ntop)).trans (h.top j hj)⟩
theorem KeepX.keep {o : Nat} {a b c : St} (h : Keep a b) (k : KeepX o b c) (ho : a.nobj ≤ o) : Keep a c :=
 ⟨Nat.le_trans h.nobj k.nobj, fun p hp => (k.obj p (Nat.lt_of_lt_of_le hp h.nobj) (by omega)).trans (h.obj p hp), fun p hp => (k.ver p (Nat.lt_of_lt_of_le hp h.nobj) (by omega)).trans (h.ver p hp),
  Nat.le_trans h.ntop k.ntop, fun j hj => (k.top j (Nat.lt_of_lt_of_le hj h.ntop)).trans (h.top j hj)⟩
def innerF (X : Scan) (c : Int) : Scan × Bool :=
 if (X.st == 5) = true then
  if smallB c = true ∧ decide (X.letters < 6) = true then ({ X with letters := X.letters + 1 }, true)
  else if (c == 40) = true then ({ X with terms := 0, st := 6 }, true) else ({ X with terms := 0 }, false)
 else if (X.st == 6) = true then
  if nineB c = true then ({ X with terms := X.terms + 1, digits := 1, st := 7 }, true)
  else if largeB c = true ∨ (c == 48) = true then ({ X with terms := X.terms + 1, digits := 1, st := 8 }, true) else ({ X with terms := X.terms + 1, digits := 1 }, false)
 else if (X.st == 7) = true ∧ decide (X.digits < 3) = true ∧ (nineB c = true ∨ (c == 48) = true) then ({ X with digits := X.digits + 1 }, true)
 else if (c == 41) = true then ({ X with lits := if (!X.head) = true then X.lits + 1 else X.lits, st := 9 }, true)
 else if (c == 44) = true ∧ decide (X.terms < 3) = true then ({ X with st := 6 }, true) else (X, false)
def outerF (X : Scan) (c : Int) : Scan × Bool :=
 if (X.st == 0) = true then
  if (X.items == 16) = true then (X, false)
  else if (c == 63) = true then ({ X with head := true, letters := 0, lits := 0, st := 1 }, true)
  else if smallB c = true then ({ X with head := true, letters := 1, lits := 0, st := 5 }, true) else ({ X with head := true, letters := 1, lits := 0 }, false)
 else if (X.st == 1) = true ∨ (X.st == 2) = true then
  if smallB c = true ∧ decide (X.letters < 6) = true then ({ X with letters := X.letters + 1, st := 2 }, true)
  else if (c == 46) = true ∧ (X.st == 2) = true then ({ X with items := X.items + 1, st := 0 }, true) else (X, false)
 else if (X.st == 3) = true ∨ (X.st == 4) = true then
  if (c == 33) = true ∧ (X.st == 3) = true then ({ X with letters := 1, st := 4 }, true)
  else if smallB c = true then ({ X with letters := 1, st := 5 }, true) else ({ X with letters := 1 }, false)
 else if (X.st == 10) = true then
  if (c == 45) = true then ({ X with head := false, st := 3 }, true) else ({ X with head := false }, false)
 else if (c == 46) = true then ({ X with items := X.items + 1, st := 0 }, true)
 else if (c == 58) = true ∧ X.head = true then ({ X with st := 10 }, true)
 else if (c == 44) = true ∧ (!X.head) = true ∧ decide (X.lits < 5) = true then ({ X with st := 3 }, true) else (X, false)
def Scan.small (X : Scan) : Prop := X.items ≤ 100000 ∧ X.letters ≤ 100000 ∧ X.digits ≤ 100000 ∧ X.terms ≤ 100000 ∧ X.lits ≤ 100000 ∧ 0 ≤ X.items ∧ 0 ≤ X.letters ∧ 0 ≤ X.digits ∧ 0 ≤ X.terms ∧ 0 ≤ X.lits
set_option maxHeartbeats 4000000 in
theorem inner_spec (o : Nat) (X : Scan) (hX : X.small) (c : Int) (σ : St) (h : σ.obj o = encScan X) :
  ACalls Tryz.prog 174 [ptr o 0, sc (.int .u8 c)] σ fun x σ' => x = sc (.bool (innerF X c).2) ∧ σ'.obj o = encScan (innerF X c).1 ∧ KeepX o σ σ' := by
 obtain ⟨b1, b2, b3, b4, b5, b6, b7, b8, b9, b10⟩ := hX
 obtain ⟨st, items, letters, digits, terms, lits, head⟩ := X
 unfold encScan at *
 simp only at *
 refine acalls 118 [.tmp 4] Tryz.func174 rfl (by decide) rfl rfl (Nat.le_of_ble_eq_true rfl) ?_
 repeat' (first
 |with_reducible first|apply Xa|apply Xb|(refine Xc ?_;intro κ hκ)|(apply hκ.out;clear hκ κ)|apply Xd|apply Xe|apply Xf
 |((with_reducible first|refine Xl ?_ ?_|refine Xk ?_ ?_)<;> intro h hari<;> try exact Xp)
 |((with_reducible refine Xh ?_);first|(refine Xi (small_spec _ _) ?_;rintro _ _ ⟨rfl,rfl⟩)|(refine Xi (nine_spec _ _) ?_;rintro _ _ ⟨rfl,rfl⟩)|(refine Xi (large_spec _ _) ?_;rintro _ _ ⟨rfl,rfl⟩)|(refine Xi (to_spec _ _ _ _ _ (by first|assumption|(simp only [put_same];rfl))) ?_;rintro _ _ ⟨rfl,rfl⟩))
 |refine Xr ?_
 |exact True.intro
 |(apply hκ.out;clear hκ κ))
 all_goals exact ⟨_, rfl, by simp only [innerF, *, ↓reduceIte, Bool.false_eq_true, and_self, or_self, true_and, and_true, true_or, or_true, false_or, or_false, and_false, false_and, reduceCtorEq, if_true, if_false, decide_true, decide_false, Bool.not_true, Bool.not_false], by simp only [innerF, *, ↓reduceIte, Bool.false_eq_true, and_self, or_self, true_and, and_true, true_or, or_true, false_or, or_false, and_false, false_and, reduceCtorEq, if_true, if_false, decide_true, decide_false, Bool.not_true, Bool.not_false], by repeat (first | exact KeepX.refl _ _ | apply KeepX.put)⟩
set_option maxHeartbeats 4000000 in
theorem outer_spec (o : Nat) (X : Scan) (hX : X.small) (c : Int) (σ : St) (h : σ.obj o = encScan X) :
  ACalls Tryz.prog 175 [ptr o 0, sc (.int .u8 c)] σ fun x σ' => x = sc (.bool (outerF X c).2) ∧ σ'.obj o = encScan (outerF X c).1 ∧ KeepX o σ σ' := by
 obtain ⟨b1, b2, b3, b4, b5, b6, b7, b8, b9, b10⟩ := hX
 obtain ⟨st, items, letters, digits, terms, lits, head⟩ := X
 unfold encScan at *
 simp only at *
 refine acalls 154 [.tmp 4] Tryz.func175 rfl (by decide) rfl rfl (Nat.le_of_ble_eq_true rfl) ?_
 repeat' (first
 |with_reducible first|apply Xa|apply Xb|(refine Xc ?_;intro κ hκ)|(apply hκ.out;clear hκ κ)|apply Xd|apply Xe|apply Xf
 |((with_reducible first|refine Xl ?_ ?_|refine Xk ?_ ?_)<;> intro h hari<;> try exact Xp)
 |((with_reducible refine Xh ?_);first|(refine Xi (small_spec _ _) ?_;rintro _ _ ⟨rfl,rfl⟩)|(refine Xi (to_spec _ _ _ _ _ (by first|assumption|(simp only [put_same];rfl))) ?_;rintro _ _ ⟨rfl,rfl⟩))
 |refine Xr ?_
 |exact True.intro
 |(apply hκ.out;clear hκ κ))
 all_goals exact ⟨_, rfl, by simp only [outerF, *, ↓reduceIte, Bool.false_eq_true, and_self, or_self, true_and, and_true, true_or, or_true, false_or, or_false, and_false, false_and, reduceCtorEq, if_true, if_false, decide_true, decide_false, Bool.not_true, Bool.not_false], by simp only [outerF, *, ↓reduceIte, Bool.false_eq_true, and_self, or_self, true_and, and_true, true_or, or_true, false_or, or_false, and_false, false_and, reduceCtorEq, if_true, if_false, decide_true, decide_false, Bool.not_true, Bool.not_false], by repeat (first | exact KeepX.refl _ _ | apply KeepX.put)⟩
end Go.Proofs.YtmoeoppbmhfbpaaGreatDoorY
