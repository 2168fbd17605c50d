import Derived.Test.YtmoeoppbmhfbpaaGreatDoorYRefD
import Derived.Test.YtmoeoppbmhfbpaaGreatDoorYRefA
/- The document's own answer: safe rules. -/
namespace Go.Proofs.YtmoeoppbmhfbpaaGreatDoorY
open Go.Abs
set_option linter.unusedSimpArgs false
set_option linter.unusedVariables false
set_option maxRecDepth 100000
def badT (x : RItem) (t : List UInt8) : Bool := variableB t && !boundB x t
def badA (x : RItem) (a : RAtom) : Bool := a.terms.any (badT x)
def safeB (x : RItem) : Bool := !(atomsL x).any (badA x)
def noT (x : RItem) (a : RAtom) (k : Nat) : Prop := (a.terms.take k).any (badT x) = false
def noA (x : RItem) (j : Nat) : Prop := ((atomsL x).take j).any (badA x) = false
def RItem.fits (x : RItem) : Prop := x.body.length ≤ 1000 ∧ x.head.terms.length ≤ 1000 ∧ ∀ a ∈ x.body, a.terms.length ≤ 1000
set_option maxHeartbeats 4000000 in
theorem safe_spec (x : RItem) (c : List AV) (hc : EItem x c) (hx : x.fits) (σ : St) : ACalls Tryz.prog 137 [ag c] σ fun r σ' => r = sc (.bool (safeB x)) ∧ Keep σ σ' := by
 have hc0 := hc
 obtain ⟨ih, id, b, hb, rfl⟩ := hc.cells
 obtain ⟨f1, f2, f3⟩ := hx
 have f4 : ∀ a ∈ x.body, a.terms.length ≤ 100000 := fun a ha => by have := f3 a ha; omega
 have hal : (atomsL x).length ≤ 1001 := by unfold atomsL; split <;> simp <;> omega
 have hat : ∀ a ∈ atomsL x, a.terms.length ≤ 1000 := by
  intro a ha
  unfold atomsL at ha
  rw [List.mem_append] at ha
  rcases ha with ha | ha
  ·split at ha
   ·cases ha
   ·simp at ha; subst ha; exact f2
  ·exact f3 a ha
 refine acalls 41 [.tmp 2] Tryz.func137 rfl (by decide) rfl rfl (Nat.le_of_ble_eq_true rfl) ?_
 repeat' (first
 |with_reducible first|apply Xa|apply Xb|(refine Xc ?_;intro κ hκ)|(apply hκ.out;clear hκ κ)|apply Xd|apply Xe|apply Xf
 |((with_reducible first|refine Xl ?_ ?_|refine Xk ?_ ?_)<;> intro h hari<;> try exact Xp)
 |((with_reducible refine Xh ?_);refine Xi (atoms_spec _ _ hc0 (by omega) _) ?_;rintro _ _ ⟨ida,cs,rfl,hE,hK⟩;(have ko:=hK.obj _ (by rw [new_nobj];exact Nat.lt_succ_self _);rw [new_same] at ko;have kn:=hK.nobj;rw [new_nobj] at kn))
 |refine Xr ?_
 |exact True.intro
 |(apply hκ.out;clear hκ κ))
 have hcl := EL.length EAtom_len hE
 rename_i σ1
 have hK1 : Keep σ σ1 := ((Keep.refl σ).new _).trans hK
 refine awp_loop (fun m s σ' => ∃ j : Nat, m = (atomsL x).length - j ∧ j ≤ (atomsL x).length ∧ s 1 = ptr σ.nobj 0 ∧ s 3 = sl ida (atomsL x).length cs ∧ s 4 = sc (.int .i64 j) ∧ Keep σ σ' ∧ σ'.obj σ.nobj = itemCells x ih id b ∧ σ.nobj < σ'.nobj ∧ noA x j) (atomsL x).length
  ⟨0, by omega, by omega, rfl, rfl, rfl, hK1, ko, by omega, by simp [noA]⟩ ?_
 rintro m s σ' ⟨j, rfl, hj, h1, h3, h4, hKs, hos, hns, hno⟩
 clear hK hK1 ko kn
 by_cases hlt : j < (atomsL x).length
 ·obtain ⟨ia, r, hd⟩ := EL_atom hE (List.getElem?_eq_getElem hlt)
  have hget := List.getElem?_eq_getElem hlt
  have hta := hat (atomsL x)[j] (List.getElem_mem hlt)
  generalize (atomsL x)[j] = a at hd hget hta
  have HG : Abs.Hid ((atomsL x)[j]? = some a) := hget
  clear hget
  repeat' (first
 |with_reducible first|apply Xa|apply Xb|(refine Xc ?_;intro κ hκ)|(apply hκ.out;clear hκ κ)|apply Xd|apply Xe|apply Xf
 |((with_reducible first|refine Xl ?_ ?_|refine Xk ?_ ?_)<;> intro h hari<;> try exact Xp)
 |refine Xr ?_
 |exact True.intro
 |(apply hκ.out;clear hκ κ))
  refine awp_loop (fun m2 s σ' => ∃ k : Nat, m2 = a.terms.length - k ∧ k ≤ a.terms.length ∧ s 1 = ptr σ.nobj 0 ∧ s 3 = sl ida (atomsL x).length cs ∧ s 4 = sc (.int .i64 j) ∧ s 5 = sc (.int .i64 k) ∧ Keep σ σ' ∧ σ'.obj σ.nobj = itemCells x ih id b ∧ σ.nobj < σ'.nobj ∧ noT x a k) a.terms.length
   ⟨0, by omega, by omega, by simp [upd, h1], by simp [upd, h3], by simp [upd, h4], rfl, hKs, hos, hns, by simp [noT]⟩ ?_
  rintro m2 s2 σ2 ⟨k, rfl, hk, g1, g3, g4, g5, hKt, hot, hnt, hno2⟩
  clear hKs hos hns
  by_cases hlt2 : k < a.terms.length
  ·have hts := map_str_get hlt2
   repeat' (first
 |with_reducible first|apply Xa|apply Xb|(refine Xc ?_;intro κ hκ)|(apply hκ.out;clear hκ κ)|apply Xd|apply Xe|apply Xf
 |((with_reducible first|refine Xl ?_ ?_|refine Xk ?_ ?_)<;> intro h hari<;> try exact Xp)
 |((with_reducible refine Xh ?_);first|(refine Xi (variable_spec _ _) ?_;rintro _ _ ⟨rfl,rfl⟩)|(refine Xi (bound_spec _ _ _ hc0 (by omega) f4 _) ?_;rintro _ _ ⟨rfl,hKb⟩;(have kb:=hKb.obj _ hnt;have knb:=hKb.nobj)))
 |refine Xr ?_
 |exact True.intro
 |(apply hκ.out;clear hκ κ))
   all_goals
    have hgk := List.getElem?_eq_getElem hlt2
    first
    | exact ⟨_, rfl, by rw [safeB, any_hit _ HG.out (any_hit (badT x) hgk (by simp [badT, *]))]; rfl, by exact Xs⟩
    | exact ⟨a.terms.length - (k + 1), by omega, k + 1, rfl, by omega, by simp, hKt.trans hKb, by omega, by unfold noT at *; rw [any_take_succ _ hgk, hno2]; simp [badT, *]⟩
    | exact ⟨a.terms.length - (k + 1), by omega, k + 1, rfl, by omega, by simp, by unfold noT at *; rw [any_take_succ _ hgk, hno2]; simp [badT, *]⟩
  ·have hkl : k = a.terms.length := by omega
   subst hkl
   repeat' (first
 |with_reducible first|apply Xa|apply Xb|(refine Xc ?_;intro κ hκ)|(apply hκ.out;clear hκ κ)|apply Xd|apply Xe|apply Xf
 |((with_reducible first|refine Xl ?_ ?_|refine Xk ?_ ?_)<;> intro h hari<;> try exact Xp)
 |refine Xr ?_
 |exact True.intro
 |(apply hκ.out;clear hκ κ))
   refine ⟨(atomsL x).length - (j + 1), by omega, j + 1, rfl, by omega, by simp, ?_⟩
   unfold noA noT at *
   rw [List.take_length] at hno2
   rw [any_take_succ _ HG.out, hno, badA, hno2]; rfl
 ·have hkl : j = (atomsL x).length := by omega
  subst hkl
  repeat' (first
 |with_reducible first|apply Xa|apply Xb|(refine Xc ?_;intro κ hκ)|(apply hκ.out;clear hκ κ)|apply Xd|apply Xe|apply Xf
 |((with_reducible first|refine Xl ?_ ?_|refine Xk ?_ ?_)<;> intro h hari<;> try exact Xp)
 |refine Xr ?_
 |exact True.intro
 |(apply hκ.out;clear hκ κ))
  unfold noA at hno
  rw [List.take_length] at hno
  first
  | exact ⟨_, rfl, by rw [safeB, hno]; rfl, by exact Xs⟩
  | exact ⟨_, rfl, by rw [safeB, hno]; rfl⟩
/- The document's own answer: the place of the first byte that cannot stand there. -/
def scan0 : Scan := ⟨0, 0, 0, 0, 0, 0, false⟩
def stepS (X : Scan) (c : UInt8) : Scan × Bool :=
 if decide (5 ≤ X.st) = true ∧ decide (X.st ≤ 8) = true then innerF X c.toNat else outerF X c.toNat
def runS : Scan → List UInt8 → Nat → Scan × Option Nat
 | X, [], _ => (X, none)
 | X, c :: r, i => if (stepS X c).2 = true then runS (stepS X c).1 r (i + 1) else ((stepS X c).1, some i)
def placeL (s : List UInt8) : Int :=
 match (runS scan0 s 0).2 with
 | some i => i
 | none => if (runS scan0 s 0).1.st != 0 then s.length else -1
def Scan.upto (X : Scan) (k : Nat) : Prop := X.items ≤ k ∧ X.letters ≤ k + 1 ∧ X.digits ≤ k + 1 ∧ X.terms ≤ k + 1 ∧ X.lits ≤ k + 1 ∧ 0 ≤ X.items ∧ 0 ≤ X.letters ∧ 0 ≤ X.digits ∧ 0 ≤ X.terms ∧ 0 ≤ X.lits
theorem upto_step {X : Scan} {k : Nat} (h : X.upto k) (c : UInt8) : (stepS X c).1.upto (k + 1) := by
 obtain ⟨h1, h2, h3, h4, h5, h6, h7, h8, h9, h10⟩ := h
 unfold stepS innerF outerF Scan.upto
 repeat' split
 all_goals (simp only []; (repeat' (first | constructor | (split <;> omega) | omega)))
theorem upto_small {X : Scan} {k : Nat} (h : X.upto k) (hk : k ≤ 10000) : X.small := by
 obtain ⟨h1, h2, h3, h4, h5, h6, h7, h8, h9, h10⟩ := h
 exact ⟨by omega, by omega, by omega, by omega, by omega, h6, h7, h8, h9, h10⟩
def atPlace (l : List UInt8) (k : Nat) (X : Scan) : Prop := runS scan0 l 0 = runS X (l.drop k) k
theorem runS_step {l : List UInt8} {k : Nat} {X : Scan} (h : k < l.length) : runS X (l.drop k) k = if (stepS X l[k]).2 = true then runS (stepS X l[k]).1 (l.drop (k + 1)) (k + 1) else ((stepS X l[k]).1, some k) := by
 rw [List.drop_eq_getElem_cons h]; rfl
set_option maxHeartbeats 4000000 in
theorem place_spec (l : List UInt8) (hb : l.length ≤ 1000) (σ : St) : ACalls Tryz.prog 134 [str l] σ fun x σ' => x = sc (.int .i64 (placeL l)) ∧ Keep σ σ' := by
 refine acalls 46 [.tmp 2] Tryz.func134 rfl (by decide) rfl rfl (Nat.le_of_ble_eq_true rfl) ?_
 repeat' (first
 |with_reducible first|apply Xa|apply Xb|(refine Xc ?_;intro κ hκ)|(apply hκ.out;clear hκ κ)|apply Xd|apply Xe|apply Xf
 |((with_reducible first|refine Xl ?_ ?_|refine Xk ?_ ?_)<;> intro h hari<;> try exact Xp)
 |refine Xr ?_
 |exact True.intro
 |(apply hκ.out;clear hκ κ))
 refine awp_loop (fun m s σ' => ∃ (k : Nat) (X : Scan), m = l.length - k ∧ k ≤ l.length ∧ s 0 = str l ∧ s 3 = ptr σ.nobj 0 ∧ s 4 = sc (.int .i64 k) ∧ Keep σ σ' ∧ σ'.obj σ.nobj = encScan X ∧ σ.nobj < σ'.nobj ∧ X.upto k ∧ atPlace l k X) l.length
  ⟨0, scan0, by omega, by omega, rfl, rfl, rfl, by exact Xs, by simp [St.new]; rfl, by simp [St.new], by simp [Scan.upto, scan0], rfl⟩ ?_
 rintro m s σ' ⟨k, X, rfl, hk, h0, h3, h4, hK, ho, hn, hu, hp⟩
 have hsm := upto_small hu (by omega)
 have ho2 := ho
 unfold encScan at ho
 by_cases hlt : k < l.length
 ·have hbk := List.getElem?_eq_getElem hlt
  repeat' (first
 |with_reducible first|apply Xa|apply Xb|(refine Xc ?_;intro κ hκ)|(apply hκ.out;clear hκ κ)|apply Xd|apply Xe|apply Xf
 |((with_reducible first|refine Xl ?_ ?_|refine Xk ?_ ?_)<;> intro h hari<;> try exact Xp)
 |((with_reducible refine Xh ?_);first|(refine Xi (inner_spec _ X hsm _ _ ho2) ?_;rintro _ _ ⟨rfl,hoi,hKi⟩;(have kin:=hKi.nobj))|(refine Xi (outer_spec _ X hsm _ _ ho2) ?_;rintro _ _ ⟨rfl,hoi,hKi⟩;(have kin:=hKi.nobj)))
 |refine Xr ?_
 |exact True.intro
 |(apply hκ.out;clear hκ κ))
  all_goals
   first
   | (have hs : stepS X l[k] = innerF X l[k].toNat := by simp [stepS, *]
      first
      | exact ⟨_, rfl, by rw [placeL, show runS scan0 l 0 = _ from hp, runS_step hlt, hs, h]; rfl, KeepX.keep hK hKi (Nat.le_refl _)⟩
      | exact ⟨l.length - (k + 1), by omega, k + 1, _, rfl, by omega, by simp, KeepX.keep hK hKi (Nat.le_refl _), rfl, by omega, by rw [← hs]; exact upto_step hu _, by rw [atPlace, show runS scan0 l 0 = _ from hp, runS_step hlt, hs, h]; rfl⟩)
   | (have hs : stepS X l[k] = outerF X l[k].toNat := by simp only [stepS, *, Bool.false_eq_true, false_and, and_false, ↓reduceIte]
      first
      | exact ⟨_, rfl, by rw [placeL, show runS scan0 l 0 = _ from hp, runS_step hlt, hs, h]; rfl, KeepX.keep hK hKi (Nat.le_refl _)⟩
      | exact ⟨l.length - (k + 1), by omega, k + 1, _, rfl, by omega, by simp, KeepX.keep hK hKi (Nat.le_refl _), rfl, by omega, by rw [← hs]; exact upto_step hu _, by rw [atPlace, show runS scan0 l 0 = _ from hp, runS_step hlt, hs, h]; rfl⟩)
 ·have hkl : k = l.length := by omega
  subst hkl
  have hr : runS scan0 l 0 = (X, none) := by rw [show runS scan0 l 0 = _ from hp, List.drop_length]; rfl
  have HR : Abs.Hid _ := hr
  clear hr
  repeat' (first
 |with_reducible first|apply Xa|apply Xb|(refine Xc ?_;intro κ hκ)|(apply hκ.out;clear hκ κ)|apply Xd|apply Xe|apply Xf
 |((with_reducible first|refine Xl ?_ ?_|refine Xk ?_ ?_)<;> intro h hari<;> try exact Xp)
 |refine Xr ?_
 |exact True.intro
 |(apply hκ.out;clear hκ κ))
  all_goals
   have hr := HR.out
   first
   | exact ⟨_, rfl, by simp [placeL, hr, *], hK⟩
   | exact ⟨_, rfl, by simp [placeL, hr, *]⟩
   | exact ⟨_, rfl, by simp [placeL, hr]; simpa using h⟩
end Go.Proofs.YtmoeoppbmhfbpaaGreatDoorY
