import Derived.Test.YtmoeoppbmhfbpaaGreatDoorYRefA
/- The document's own answer: a text is cut. -/
namespace Go.Proofs.YtmoeoppbmhfbpaaGreatDoorY
open Go.Abs
set_option linter.unusedSimpArgs false
set_option linter.unusedVariables false
set_option maxRecDepth 100000
def findN (l : List UInt8) (c : Int) : Nat := l.findIdx fun x => (x.toNat : Int) == c
theorem findN_le (l : List UInt8) (c : Int) : findN l c ≤ l.length := List.findIdx_le_length
theorem findN_hit (l : List UInt8) (c : Int) (k : Nat) (hk : k < l.length) (hn : ∀ (j : Nat), j < k → ∀ (x : UInt8), l[j]? = some x → ((x.toNat : Int) == c) = false) (hc : ((l[k].toNat : Int) == c) = true) : findN l c = k := by
 unfold findN
 rw [List.findIdx_eq hk]
 exact ⟨hc, fun j hj => hn j hj _ (List.getElem?_eq_getElem _)⟩
theorem findN_miss (l : List UInt8) (c : Int) (hn : ∀ (j : Nat), j < l.length → ∀ (x : UInt8), l[j]? = some x → ((x.toNat : Int) == c) = false) : findN l c = l.length := by
 unfold findN
 rw [List.findIdx_eq_length]
 intro x hx
 obtain ⟨j, hj, he⟩ := List.mem_iff_getElem.1 hx
 exact hn j hj x (by rw [← he]; exact List.getElem?_eq_getElem _)
set_option maxHeartbeats 1000000 in
theorem find_spec (l : List UInt8) (c : Int) (hb : l.length ≤ 100000) (σ : St) : ACalls Tryz.prog 99 [str l, sc (.int .u8 c)] σ fun x σ' => x = sc (.int .i64 (findN l c)) ∧ σ' = σ := by
 refine acalls 20 [.tmp 4] Tryz.func99 rfl (by decide) rfl rfl (Nat.le_of_ble_eq_true rfl) ?_
 repeat' (first
 |with_reducible first|apply Xa|apply Xb|(refine Xc ?_;intro κ hκ)|(apply hκ.out;clear hκ κ)|apply Xd|apply Xe|apply Xf
 |((with_reducible first|refine Xl ?_ ?_|refine Xk ?_ ?_)<;> intro h hari<;> try exact Xp)
 |refine Xr ?_
 |exact True.intro
 |(apply hκ.out;clear hκ κ))
 refine awp_loop (fun m s σ' => ∃ k : Nat, m = l.length - k ∧ k ≤ l.length ∧ s 0 = str l ∧ s 1 = sc (.int .u8 c) ∧ s 5 = sc (.int .i64 k) ∧ σ' = σ ∧
  ∀ (j : Nat), j < k → ∀ (x : UInt8), l[j]? = some x → ((x.toNat : Int) == c) = false) l.length ⟨0, by omega, by omega, rfl, rfl, rfl, rfl, fun j h => by omega⟩ ?_
 rintro m s σ' ⟨k, rfl, hk, h0, h1, h5, rfl, hno⟩
 by_cases hlt : k < l.length
 ·have hbk := List.getElem?_eq_getElem hlt
  repeat' (first
 |with_reducible first|apply Xa|apply Xb|(refine Xc ?_;intro κ hκ)|(apply hκ.out;clear hκ κ)|apply Xd|apply Xe|apply Xf
 |((with_reducible first|refine Xl ?_ ?_|refine Xk ?_ ?_)<;> intro h hari<;> try exact Xp)
 |refine Xr ?_
 |exact True.intro
 |(apply hκ.out;clear hκ κ))
  ·exact ⟨_, rfl, by rw [findN_hit l c k hlt hno (by assumption)]⟩
  ·refine ⟨l.length - (k + 1), by omega, k + 1, rfl, by omega, by simp, fun j hj x hx => ?_⟩
   by_cases hjk : j = k
   ·subst hjk; rw [hbk] at hx; cases hx; assumption
   ·exact hno j (by omega) x hx
 ·have hkl : k = l.length := by omega
  repeat' (first
 |with_reducible first|apply Xa|apply Xb|(refine Xc ?_;intro κ hκ)|(apply hκ.out;clear hκ κ)|apply Xd|apply Xe|apply Xf
 |((with_reducible first|refine Xl ?_ ?_|refine Xk ?_ ?_)<;> intro h hari<;> try exact Xp)
 |refine Xr ?_
 |exact True.intro
 |(apply hκ.out;clear hκ κ))
  exact ⟨_, rfl, by rw [findN_miss l c (by rw [hkl] at hno; exact hno)]⟩
def cutAux (c : Int) : List UInt8 → Bool → List UInt8 → List (List UInt8)
 | [], _, cur => if cur = [] then [] else [cur]
 | b :: r, deep, cur =>
  let d1 := if ((b.toNat : Int) == 40) = true then true else deep
  let d2 := if ((b.toNat : Int) == 41) = true then false else d1
  if ((b.toNat : Int) == c) = true ∧ d2 = false then cur :: cutAux c r d2 [] else cutAux c r d2 (cur ++ [b])
def cutL (s : List UInt8) (c : Int) : List (List UInt8) := cutAux c s false []
theorem cutAux_length (c : Int) : ∀ (s : List UInt8) (d : Bool) (cur : List UInt8), (cutAux c s d cur).length ≤ s.length + 1
 | [], d, cur => by unfold cutAux; split <;> simp
 | b :: r, d, cur => by
  unfold cutAux
  all_goals
   simp only []
   generalize (if ((b.toNat : Int) == 41) = true then false else _) = d2
   split
   ·have := cutAux_length c r d2 []; simp; omega
   ·have := cutAux_length c r d2 (cur ++ [b]); simp; omega
theorem drop_step {s : List UInt8} {k : Nat} (h : k < s.length) : s.drop k = s[k] :: s.drop (k + 1) := List.drop_eq_getElem_cons h
theorem take_step {s : List UInt8} {f k : Nat} (hf : f ≤ k) (h : k < s.length) : (s.drop f).take (k + 1 - f) = (s.drop f).take (k - f) ++ [s[k]] := by
 rw [show k + 1 - f = (k - f) + 1 by omega, List.take_add_one, List.getElem?_drop, show f + (k - f) = k by omega, List.getElem?_eq_getElem h]
 rfl
set_option maxHeartbeats 4000000 in
theorem cut_spec (l : List UInt8) (c : Int) (hb : l.length ≤ 100000) (σ : St) : ACalls Tryz.prog 95 [str l, sc (.int .u8 c)] σ fun x σ' => ∃ id, x = sl id (cutL l c).length ((cutL l c).map str) ∧ Keep σ σ' := by
 refine acalls 52 [.tmp 4] Tryz.func95 rfl (by decide) rfl rfl (Nat.le_of_ble_eq_true rfl) ?_
 repeat' (first
 |with_reducible first|apply Xa|apply Xb|(refine Xc ?_;intro κ hκ)|(apply hκ.out;clear hκ κ)|apply Xd|apply Xe|apply Xf
 |((with_reducible first|refine Xl ?_ ?_|refine Xk ?_ ?_)<;> intro h hari<;> try exact Xp)
 |((with_reducible refine aapp_go ?_);refine Xt ?_;intro idn σn hOn hKn eobj enobj ever entop)
 |((with_reducible refine aappn_go ?_);refine Xu ?_)
 |refine Xr ?_
 |exact True.intro
 |(apply hκ.out;clear hκ κ))
 refine awp_loop (fun m s σ' => ∃ (k f id : Nat) (d : Bool) (acc : List (List UInt8)), m = l.length - k ∧ k ≤ l.length ∧ f ≤ k ∧ s 0 = str l ∧ s 1 = sc (.int .u8 c) ∧ s 5 = sl id acc.length (acc.map str) ∧ s 6 = sc (.bool d) ∧ s 7 = sc (.int .i64 f) ∧ s 8 = sc (.int .i64 k) ∧
  Keep σ σ' ∧ Own σ σ' id acc.length ∧ acc.length ≤ k ∧ Abs.Hid (cutL l c = acc ++ cutAux c (l.drop k) d ((l.drop f).take (k - f)))) l.length ⟨0, 0, 1, false, [], by omega, by omega, by omega, rfl, rfl, rfl, rfl, rfl, rfl, Keep.refl _, Own.nil _ _, by simp, rfl⟩ ?_
 rintro m s σ' ⟨k, f, id, d, acc, rfl, hk, hfk, h0, h1, h5, h6, h7, h8, hK, hO, hal, hcut⟩
 by_cases hlt : k < l.length
 ·have hbk := List.getElem?_eq_getElem hlt
  repeat' (first
 |with_reducible first|apply Xa|apply Xb|(refine Xc ?_;intro κ hκ)|(apply hκ.out;clear hκ κ)|apply Xd|apply Xe|apply Xf
 |((with_reducible first|refine Xl ?_ ?_|refine Xk ?_ ?_)<;> intro h hari<;> try exact Xp)
 |((with_reducible refine aapp_go ?_);refine Xt ?_;intro idn σn hOn hKn eobj enobj ever entop)
 |((with_reducible refine aappn_go ?_);refine Xu ?_)
 |refine Xr ?_
 |exact True.intro
 |(apply hκ.out;clear hκ κ))
  all_goals first
   | (refine ⟨l.length - (k + 1), by omega, k + 1, k + 1, idn, _, acc ++ [(l.drop f).take (k - f)], rfl, by omega, by omega, by simp, rfl, by simp, by simp, by simpa using hOn, by simp; omega, ?_⟩
      have hc := hcut.out
      rw [drop_step hlt] at hc
      simp only [cutAux, *, ↓reduceIte, and_self, Bool.false_eq_true] at hc
      rw [Abs.Hid, hc]
      try first | (simp; done) | (cases d <;> simp at h ⊢))
   | (refine ⟨l.length - (k + 1), by omega, k + 1, f, id, _, acc, rfl, by omega, by omega, rfl, rfl, rfl, by simp, hO, by omega, ?_⟩
      have hc := hcut.out
      rw [drop_step hlt] at hc
      simp only [cutAux, *, ↓reduceIte, and_self, and_false, false_and, reduceCtorEq, Bool.false_eq_true] at hc
      rw [Abs.Hid, hc, take_step hfk hlt]
      try first | rfl | (cases d <;> simp at h ⊢))
 ·have hc := hcut.out
  have hkl : k = l.length := by omega
  subst hkl
  simp only [List.drop_length, cutAux] at hc
  have htk : (l.drop f).take (l.length - f) = l.drop f := List.take_of_length_le (by simp)
  rw [htk] at hc
  have HC := (show Abs.Hid _ from hc)
  clear hc hcut htk
  repeat' (first
 |with_reducible first|apply Xa|apply Xb|(refine Xc ?_;intro κ hκ)|(apply hκ.out;clear hκ κ)|apply Xd|apply Xe|apply Xf
 |((with_reducible first|refine Xl ?_ ?_|refine Xk ?_ ?_)<;> intro h hari<;> try exact Xp)
 |((with_reducible refine aapp_go ?_);refine Xt ?_;intro idn σn hOn hKn eobj enobj ever entop)
 |((with_reducible refine aappn_go ?_);refine Xu ?_)
 |refine Xr ?_
 |exact True.intro
 |(apply hκ.out;clear hκ κ))
  ·first | refine ⟨_, rfl, idn, ?_, hKn⟩ | refine ⟨_, rfl, idn, ?_⟩
   have hc := HC.out
   rw [if_neg (by intro e; have := congrArg List.length e; simp at this; omega)] at hc
   rw [hc]
   simp
   try rw [List.take_of_length_le (by simp)]
  ·first | refine ⟨_, rfl, id, ?_, hK⟩ | refine ⟨_, rfl, id, ?_⟩
   have hc := HC.out
   rw [if_pos (by apply List.eq_nil_of_length_eq_zero; simp; omega)] at hc
   rw [hc]
   simp
/- The document's own answer: atoms and items of a text. -/
structure RAtom where
 nt : Bool
 pred : List UInt8
 terms : List (List UInt8)
structure RItem where
 out : Bool
 head : RAtom
 body : List RAtom
def EAtom (a : RAtom) (c : List AV) : Prop := ∃ id, c = [sc (.bool a.nt), str a.pred, sl id a.terms.length (a.terms.map str)]
theorem EAtom_len (a : RAtom) (c : List AV) (h : EAtom a c) : c.length = 3 := by obtain ⟨id, rfl⟩ := h; rfl
def EItem (x : RItem) (c : List AV) : Prop := ∃ h id b, EAtom x.head h ∧ EL EAtom x.body b ∧ c = sc (.bool x.out) :: h ++ [sl id x.body.length b]
theorem EItem_len (x : RItem) (c : List AV) (h : EItem x c) : c.length = 5 := by
 obtain ⟨h, id, b, ⟨i, rfl⟩, -, rfl⟩ := h; rfl
def sub (l : List UInt8) (i j : Nat) : List UInt8 := (l.drop i).take (j - i)
def bangB : List UInt8 → Bool
 | [] => false
 | b :: _ => (b.toNat : Int) == 33
def unbang (s : List UInt8) : List UInt8 := if bangB s then (s.drop 1).take (s.length - 1) else s
def atomU (nt : Bool) (s : List UInt8) : RAtom :=
 { nt := nt, pred := (s.drop 0).take (findN s 40 - 0), terms := if findN s 40 + 1 < s.length then cutL ((s.drop (findN s 40 + 1)).take (s.length - 1 - (findN s 40 + 1))) 44 else [] }
def atomL (s : List UInt8) : RAtom := atomU (bangB s) (unbang s)
set_option maxHeartbeats 4000000 in
theorem atom_spec (l : List UInt8) (hb : l.length ≤ 10000) (σ : St) : ACalls Tryz.prog 138 [str l] σ fun x σ' => ∃ c, x = ag c ∧ EAtom (atomL l) c ∧ Keep σ σ' := by
 refine acalls 36 [.cell 2 143] Tryz.func138 rfl (by decide) rfl rfl (Nat.le_of_ble_eq_true rfl) ?_
 have hfl : ∀ (m : List UInt8), ((findN m 40 : Nat) : Int) ≤ (m.length : Int) := fun m => by have := findN_le m 40; omega
 cases l with
 | nil =>
  have hne : (([] : List UInt8) == []) = true := rfl
  have hf := hfl []
  simp only [List.length_nil] at hf hfl
  repeat' (first
 |with_reducible first|apply Xa|apply Xb|(refine Xc ?_;intro κ hκ)|(apply hκ.out;clear hκ κ)|apply Xd|apply Xe|apply Xf
 |((with_reducible first|refine Xl ?_ ?_|refine Xk ?_ ?_)<;> intro h hari<;> try exact Xp)
 |((with_reducible refine Xh ?_);first|(refine Xi (find_spec _ _ (by simp) _) ?_;rintro _ _ ⟨rfl,rfl⟩)|(refine Xi (cut_spec _ _ (by simp) _) ?_;rintro _ _ ⟨idc,rfl,hKc⟩;(have ko:=hKc.obj;simp only [new_nobj,put_nobj] at ko)))
 |refine Xr ?_
 |exact True.intro
 |(apply hκ.out;clear hκ κ))
  exact ⟨_, rfl, _, rfl, ⟨1, by simp [atomL, atomU, bangB, unbang]⟩, by exact Xs⟩
 | cons b r =>
  have hne : (b :: r == ([] : List UInt8)) = false := rfl
  simp only [List.length_cons] at hb
  have hne2 : (b :: r)[0]? = some b := rfl
  have hf := findN_le r 40
  have hf2 := findN_le (b :: r) 40
  simp only [List.length_cons] at hf2
  repeat' (first
 |with_reducible first|apply Xa|apply Xb|(refine Xc ?_;intro κ hκ)|(apply hκ.out;clear hκ κ)|apply Xd|apply Xe|apply Xf
 |((with_reducible first|refine Xl ?_ ?_|refine Xk ?_ ?_)<;> intro h hari<;> try exact Xp)
 |((with_reducible refine Xh ?_);first|(refine Xi (find_spec _ _ (by first|omega|(simp;omega)) _) ?_;rintro _ _ ⟨rfl,rfl⟩)|(refine Xi (cut_spec _ _ (by first|omega|(simp;omega)) _) ?_;rintro _ _ ⟨idc,rfl,hKc⟩;(have ko:=hKc.obj;simp only [new_nobj,put_nobj] at ko)))
 |refine Xr ?_
 |exact True.intro
 |(apply hκ.out;clear hκ κ))
  ·have hq : findN r 40 + 1 < r.length := by omega
   exact ⟨_, rfl, _, rfl, ⟨idc, by simp [atomL, atomU, bangB, unbang, *]⟩, by exact Xs⟩
  ·have hq : ¬ findN r 40 + 1 < r.length := by omega
   exact ⟨_, rfl, _, rfl, ⟨1, by simp [atomL, atomU, bangB, unbang, *]⟩, by exact Xs⟩
  ·have hq : findN (b :: r) 40 < r.length := by omega
   exact ⟨_, rfl, _, rfl, ⟨idc, by simp [atomL, atomU, bangB, unbang, *]⟩, by exact Xs⟩
  ·have hq : ¬ findN (b :: r) 40 < r.length := by omega
   exact ⟨_, rfl, _, rfl, ⟨1, by simp [atomL, atomU, bangB, unbang, *]⟩, by exact Xs⟩
end Go.Proofs.YtmoeoppbmhfbpaaGreatDoorY
