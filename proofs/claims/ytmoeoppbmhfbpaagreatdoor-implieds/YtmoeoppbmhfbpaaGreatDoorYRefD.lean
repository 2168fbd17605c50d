import Derived.Test.YtmoeoppbmhfbpaaGreatDoorYRefB
/- The document's own answer: what is asked of items. -/
namespace Go.Proofs.YtmoeoppbmhfbpaaGreatDoorY
open Go.Abs
set_option linter.unusedSimpArgs false
set_option linter.unusedVariables false
set_option maxRecDepth 100000
theorem any_take_succ {α : Type} {l : List α} {k : Nat} {a : α} (p : α → Bool) (h : l[k]? = some a) : (l.take (k + 1)).any p = ((l.take k).any p || p a) := by
 rw [List.take_add_one, h]; simp
theorem any_hit {α : Type} {l : List α} {k : Nat} {a : α} (p : α → Bool) (h : l[k]? = some a) (hp : p a = true) : l.any p = true :=
 List.any_eq_true.2 ⟨a, List.mem_of_getElem? h, hp⟩
def variableB : List UInt8 → Bool
 | [] => false
 | b :: _ => largeB b.toNat
set_option maxHeartbeats 1000000 in
theorem variable_spec (l : List UInt8) (σ : St) : ACalls Tryz.prog 145 [str l] σ fun x σ' => x = sc (.bool (variableB l)) ∧ σ' = σ := by
 refine acalls 10 [.tmp 2] Tryz.func145 rfl (by decide) rfl rfl (Nat.le_of_ble_eq_true rfl) ?_
 cases l with
 | nil =>
  have hne : (([] : List UInt8) == []) = true := rfl
  repeat' (first
 |with_reducible first|apply Xa|apply Xb|(refine Xc ?_;intro κ hκ)|(apply hκ.out;clear hκ κ)|apply Xd|apply Xe|apply Xf
 |((with_reducible first|refine Xl ?_ ?_|refine Xk ?_ ?_)<;> intro h hari<;> try exact Xp)
 |((with_reducible refine Xh ?_);refine Xi (large_spec _ _) ?_;rintro _ _ ⟨rfl,rfl⟩)
 |refine Xr ?_
 |exact True.intro
 |(apply hκ.out;clear hκ κ))
  all_goals exact ⟨_, rfl, by simp [variableB]⟩
 | cons b r =>
  have hne : (b :: r == ([] : List UInt8)) = false := rfl
  have hne2 : (b :: r)[0]? = some b := rfl
  repeat' (first
 |with_reducible first|apply Xa|apply Xb|(refine Xc ?_;intro κ hκ)|(apply hκ.out;clear hκ κ)|apply Xd|apply Xe|apply Xf
 |((with_reducible first|refine Xl ?_ ?_|refine Xk ?_ ?_)<;> intro h hari<;> try exact Xp)
 |((with_reducible refine Xh ?_);refine Xi (large_spec _ _) ?_;rintro _ _ ⟨rfl,rfl⟩)
 |refine Xr ?_
 |exact True.intro
 |(apply hκ.out;clear hκ κ))
  all_goals exact ⟨_, rfl, by simp [variableB]⟩
def atomsL (x : RItem) : List RAtom := (if x.out = true then [] else [x.head]) ++ x.body
abbrev itemCells (x : RItem) (ih id : Nat) (b : List AV) : List AV := [sc (.bool x.out), sc (.bool x.head.nt), str x.head.pred, sl ih x.head.terms.length (x.head.terms.map str), sl id x.body.length b]
theorem EItem.cells {x : RItem} {c : List AV} (h : EItem x c) : ∃ ih id b, EL EAtom x.body b ∧ c = itemCells x ih id b := by
 obtain ⟨h, id, b, ⟨i, rfl⟩, hb, rfl⟩ := h
 exact ⟨i, id, b, hb, rfl⟩
theorem EItem.of {x : RItem} {ih id : Nat} {b : List AV} (h : EL EAtom x.body b) : EItem x (itemCells x ih id b) := ⟨_, id, b, ⟨ih, rfl⟩, h, rfl⟩
theorem EL_atom {l : List RAtom} {cs : List AV} {i : Nat} {a : RAtom} (h : EL EAtom l cs) (hi : l[i]? = some a) : ∃ ia r, cs.drop (i * 3) = sc (.bool a.nt) :: str a.pred :: sl ia a.terms.length (a.terms.map str) :: r := by
 obtain ⟨c, r, ⟨ia, rfl⟩, e⟩ := EL.get EAtom_len h hi
 exact ⟨ia, r, e⟩
set_option maxHeartbeats 4000000 in
theorem names_spec (x : RItem) (p : List UInt8) (c : List AV) (hc : EItem x c) (hn : x.body.length ≤ 100000) (σ : St) : ACalls Tryz.prog 224 [ag c, str p] σ fun r σ' => r = sc (.bool (x.body.any fun a => a.pred == p)) ∧ Keep σ σ' := by
 obtain ⟨ih, id, b, hb, rfl⟩ := hc.cells
 have hbl := EL.length EAtom_len hb
 refine acalls 21 [.tmp 4] Tryz.func224 rfl (by decide) rfl rfl (Nat.le_of_ble_eq_true rfl) ?_
 repeat' (first
 |with_reducible first|apply Xa|apply Xb|(refine Xc ?_;intro κ hκ)|(apply hκ.out;clear hκ κ)|apply Xd|apply Xe|apply Xf
 |((with_reducible first|refine Xl ?_ ?_|refine Xk ?_ ?_)<;> intro h hari<;> try exact Xp)
 |refine Xr ?_
 |exact True.intro
 |(apply hκ.out;clear hκ κ))
 refine awp_loop (fun m s σ' => ∃ k : Nat, m = x.body.length - k ∧ k ≤ x.body.length ∧ s 2 = ptr σ.nobj 0 ∧ s 1 = str p ∧ s 5 = sc (.int .i64 k) ∧ σ' = σ.new (itemCells x ih id b) ∧ Abs.Hid ((x.body.take k).any (fun a => a.pred == p) = false)) x.body.length
  ⟨0, by omega, by omega, rfl, rfl, rfl, rfl, by simp [Abs.Hid]⟩ ?_
 rintro m s σ' ⟨k, rfl, hk, h2, h1, h5, rfl, hno⟩
 by_cases hlt : k < x.body.length
 ·obtain ⟨ia, r, hd⟩ := EL_atom hb (List.getElem?_eq_getElem hlt)
  repeat' (first
 |with_reducible first|apply Xa|apply Xb|(refine Xc ?_;intro κ hκ)|(apply hκ.out;clear hκ κ)|apply Xd|apply Xe|apply Xf
 |((with_reducible first|refine Xl ?_ ?_|refine Xk ?_ ?_)<;> intro h hari<;> try exact Xp)
 |refine Xr ?_
 |exact True.intro
 |(apply hκ.out;clear hκ κ))
  ·exact ⟨_, rfl, by rw [any_hit _ (List.getElem?_eq_getElem hlt) (by assumption)], by exact Xs⟩
  ·exact ⟨x.body.length - (k + 1), by omega, k + 1, rfl, by omega, by simp, by rw [Abs.Hid, any_take_succ _ (List.getElem?_eq_getElem hlt), hno.out]; simpa using h⟩
 ·have hkl : k = x.body.length := by omega
  subst hkl
  rw [List.take_length] at hno
  repeat' (first
 |with_reducible first|apply Xa|apply Xb|(refine Xc ?_;intro κ hκ)|(apply hκ.out;clear hκ κ)|apply Xd|apply Xe|apply Xf
 |((with_reducible first|refine Xl ?_ ?_|refine Xk ?_ ?_)<;> intro h hari<;> try exact Xp)
 |refine Xr ?_
 |exact True.intro
 |(apply hκ.out;clear hκ κ))
  exact ⟨_, rfl, by rw [hno.out], by exact Xs⟩
def preL (x : RItem) : List RAtom := if x.out = true then [] else [x.head]
def atomsInv (x : RItem) (ih id : Nat) (b : List AV) (σ : St) (m : Nat) (s : Sl) (σ' : St) : Prop :=
 ∃ (k id3 : Nat) (xs : List AV), m = x.body.length - k ∧ k ≤ x.body.length ∧ s 1 = ptr σ.nobj 0 ∧ s 3 = sl id3 ((preL x).length + k) xs ∧ s 4 = sc (.int .i64 k) ∧ Keep σ σ' ∧ Own σ σ' id3 ((preL x).length + k) ∧
  σ'.obj σ.nobj = itemCells x ih id b ∧ σ.nobj < σ'.nobj ∧ Abs.Hid (EL EAtom (preL x ++ x.body.take k) xs)
set_option maxHeartbeats 4000000 in
theorem atoms_spec (x : RItem) (c : List AV) (hc : EItem x c) (hn : x.body.length ≤ 100000) (σ : St) : ACalls Tryz.prog 139 [ag c] σ fun r σ' => ∃ id cs, r = sl id (atomsL x).length cs ∧ EL EAtom (atomsL x) cs ∧ Keep σ σ' := by
 obtain ⟨ih, id, b, hb, rfl⟩ := hc.cells
 have hbl := EL.length EAtom_len hb
 have hpl : (preL x).length ≤ 1 := by unfold preL; split <;> simp
 refine acalls 29 [.tmp 2] Tryz.func139 rfl (by decide) rfl rfl (Nat.le_of_ble_eq_true rfl) ?_
 repeat' (first
 |with_reducible first|apply Xa|apply Xb|(refine Xc ?_;intro κ hκ)|(apply hκ.out;clear hκ κ)|apply Xd|apply Xe|apply Xf
 |((with_reducible first|refine Xl ?_ ?_|refine Xk ?_ ?_)<;> intro h hari<;> try exact Xp)
 |((with_reducible refine aapp_go ?_);refine Xt ?_;intro idn σn hOn hKn eobj enobj ever entop)
 |((with_reducible refine aappn_go ?_);refine Xu ?_)
 |refine Xr ?_
 |exact True.intro
 |(apply hκ.out;clear hκ κ))
 ·refine awp_loop (atomsInv x ih id b σ) x.body.length ⟨0, _, _, by omega, by omega, rfl, by unfold preL; rw [if_neg (by simpa using h)]; rfl, rfl, by exact Xs, ?_, by simp [St.new, St.lay], by simp [St.new, St.lay], ?_⟩ ?_
  ·unfold preL; rw [if_neg (by simpa using h)]; exact Own.made (by exact Xs) (by decide)
  ·unfold preL; rw [if_neg (by simpa using h)]; exact EL.single ⟨_, rfl⟩
  rintro m s σ' ⟨k, id3, xs, rfl, hk, h1, h3, h4, hK, hO, ho, hno, hE⟩
  have hxl := EL.length EAtom_len hE.out
  simp only [List.length_append, List.length_take, Nat.min_eq_left hk] at hxl
  by_cases hlt : k < x.body.length
  ·obtain ⟨ia, r, hd⟩ := EL_atom hb (List.getElem?_eq_getElem hlt)
   repeat' (first
 |with_reducible first|apply Xa|apply Xb|(refine Xc ?_;intro κ hκ)|(apply hκ.out;clear hκ κ)|apply Xd|apply Xe|apply Xf
 |((with_reducible first|refine Xl ?_ ?_|refine Xk ?_ ?_)<;> intro h hari<;> try exact Xp)
 |((with_reducible refine aapp_go ?_);refine Xt ?_;intro idn σn hOn hKn eobj enobj ever entop)
 |((with_reducible refine aappn_go ?_);refine Xu ?_)
 |refine Xr ?_
 |exact True.intro
 |(apply hκ.out;clear hκ κ))
   refine ⟨x.body.length - (k + 1), by omega, k + 1, idn, _, rfl, by omega, by simp [upd, h1], rfl, by simp [upd], hKn, by simpa [Nat.add_assoc] using hOn, by rw [eobj]; exact ho, by omega, ?_⟩
   rw [Abs.Hid, List.take_add_one, List.getElem?_eq_getElem hlt, ← List.append_assoc]
   exact hE.out.append (EL.single ⟨_, rfl⟩)
  ·have hkl : k = x.body.length := by omega
   subst hkl
   rw [List.take_length] at hE
   repeat' (first
 |with_reducible first|apply Xa|apply Xb|(refine Xc ?_;intro κ hκ)|(apply hκ.out;clear hκ κ)|apply Xd|apply Xe|apply Xf
 |((with_reducible first|refine Xl ?_ ?_|refine Xk ?_ ?_)<;> intro h hari<;> try exact Xp)
 |((with_reducible refine aapp_go ?_);refine Xt ?_;intro idn σn hOn hKn eobj enobj ever entop)
 |((with_reducible refine aappn_go ?_);refine Xu ?_)
 |refine Xr ?_
 |exact True.intro
 |(apply hκ.out;clear hκ κ))
   first | exact ⟨_, rfl, id3, xs, by simp [atomsL, preL], hE.out, hK⟩ | exact ⟨_, rfl, id3, xs, by simp [atomsL, preL], hE.out⟩
 ·refine awp_loop (atomsInv x ih id b σ) x.body.length ⟨0, _, _, by omega, by omega, rfl, by unfold preL; rw [if_pos (by simpa using h)]; rfl, rfl, by exact Xs, ?_, by simp [St.new, St.lay], by simp [St.new, St.lay], ?_⟩ ?_
  ·unfold preL; rw [if_pos (by simpa using h)]; exact Own.nil _ _
  ·unfold preL; rw [if_pos (by simpa using h)]; rfl
  rintro m s σ' ⟨k, id3, xs, rfl, hk, h1, h3, h4, hK, hO, ho, hno, hE⟩
  have hxl := EL.length EAtom_len hE.out
  simp only [List.length_append, List.length_take, Nat.min_eq_left hk] at hxl
  by_cases hlt : k < x.body.length
  ·obtain ⟨ia, r, hd⟩ := EL_atom hb (List.getElem?_eq_getElem hlt)
   repeat' (first
 |with_reducible first|apply Xa|apply Xb|(refine Xc ?_;intro κ hκ)|(apply hκ.out;clear hκ κ)|apply Xd|apply Xe|apply Xf
 |((with_reducible first|refine Xl ?_ ?_|refine Xk ?_ ?_)<;> intro h hari<;> try exact Xp)
 |((with_reducible refine aapp_go ?_);refine Xt ?_;intro idn σn hOn hKn eobj enobj ever entop)
 |((with_reducible refine aappn_go ?_);refine Xu ?_)
 |refine Xr ?_
 |exact True.intro
 |(apply hκ.out;clear hκ κ))
   refine ⟨x.body.length - (k + 1), by omega, k + 1, idn, _, rfl, by omega, by simp [upd, h1], rfl, by simp [upd], hKn, by simpa [Nat.add_assoc] using hOn, by rw [eobj]; exact ho, by omega, ?_⟩
   rw [Abs.Hid, List.take_add_one, List.getElem?_eq_getElem hlt, ← List.append_assoc]
   exact hE.out.append (EL.single ⟨_, rfl⟩)
  ·have hkl : k = x.body.length := by omega
   subst hkl
   rw [List.take_length] at hE
   repeat' (first
 |with_reducible first|apply Xa|apply Xb|(refine Xc ?_;intro κ hκ)|(apply hκ.out;clear hκ κ)|apply Xd|apply Xe|apply Xf
 |((with_reducible first|refine Xl ?_ ?_|refine Xk ?_ ?_)<;> intro h hari<;> try exact Xp)
 |((with_reducible refine aapp_go ?_);refine Xt ?_;intro idn σn hOn hKn eobj enobj ever entop)
 |((with_reducible refine aappn_go ?_);refine Xu ?_)
 |refine Xr ?_
 |exact True.intro
 |(apply hκ.out;clear hκ κ))
   first | exact ⟨_, rfl, id3, xs, by simp [atomsL, preL], hE.out, hK⟩ | exact ⟨_, rfl, id3, xs, by simp [atomsL, preL], hE.out⟩
def nob (a : RAtom) (t : List UInt8) (k : Nat) : Prop := (a.terms.take k).any (fun u => !a.nt && u == t) = false
def nobs (x : RItem) (t : List UInt8) (j : Nat) : Prop := (x.body.take j).any (fun a => a.terms.any fun u => !a.nt && u == t) = false
def boundB (x : RItem) (t : List UInt8) : Bool := x.body.any fun a => a.terms.any fun u => !a.nt && u == t
theorem map_str_get {l : List (List UInt8)} {k : Nat} (h : k < l.length) : (l.map str).drop k = str l[k] :: (l.map str).drop (k + 1) := by
 rw [List.drop_eq_getElem_cons (by simpa using h)]; simp
set_option maxHeartbeats 4000000 in
theorem bound_spec (x : RItem) (t : List UInt8) (c : List AV) (hc : EItem x c) (hn : x.body.length ≤ 100000) (ht : ∀ a ∈ x.body, a.terms.length ≤ 100000) (σ : St) : ACalls Tryz.prog 181 [ag c, str t] σ fun r σ' => r = sc (.bool (boundB x t)) ∧ Keep σ σ' := by
 obtain ⟨ih, id, b, hb, rfl⟩ := hc.cells
 have hbl := EL.length EAtom_len hb
 refine acalls 45 [.tmp 4] Tryz.func181 rfl (by decide) rfl rfl (Nat.le_of_ble_eq_true rfl) ?_
 repeat' (first
 |with_reducible first|apply Xa|apply Xb|(refine Xc ?_;intro κ hκ)|(apply hκ.out;clear hκ κ)|apply Xd|apply Xe|apply Xf
 |((with_reducible first|refine Xl ?_ ?_|refine Xk ?_ ?_)<;> intro h hari<;> try exact Xp)
 |refine Xr ?_
 |exact True.intro
 |(apply hκ.out;clear hκ κ))
 refine awp_loop (fun m s σ' => ∃ j : Nat, m = x.body.length - j ∧ j ≤ x.body.length ∧ s 2 = ptr σ.nobj 0 ∧ s 1 = str t ∧ s 5 = sc (.int .i64 j) ∧ σ' = σ.new (itemCells x ih id b) ∧ nobs x t j) x.body.length
  ⟨0, by omega, by omega, rfl, rfl, rfl, rfl, by simp [nobs]⟩ ?_
 rintro m s σ' ⟨j, rfl, hj, h2, h1, h5, rfl, hno⟩
 by_cases hlt : j < x.body.length
 ·obtain ⟨ia, r, hd⟩ := EL_atom hb (List.getElem?_eq_getElem hlt)
  have hget := List.getElem?_eq_getElem hlt
  have hta := ht x.body[j] (List.getElem_mem hlt)
  generalize x.body[j] = a at hd hget hta
  have HG : Abs.Hid (x.body[j]? = some a) := hget
  clear hget
  repeat' (first
 |with_reducible first|apply Xa|apply Xb|(refine Xc ?_;intro κ hκ)|(apply hκ.out;clear hκ κ)|apply Xd|apply Xe|apply Xf
 |((with_reducible first|refine Xl ?_ ?_|refine Xk ?_ ?_)<;> intro h hari<;> try exact Xp)
 |refine Xr ?_
 |exact True.intro
 |(apply hκ.out;clear hκ κ))
  refine awp_loop (fun m2 s σ' => ∃ k : Nat, m2 = a.terms.length - k ∧ k ≤ a.terms.length ∧ s 2 = ptr σ.nobj 0 ∧ s 1 = str t ∧ s 5 = sc (.int .i64 j) ∧ s 6 = sc (.int .i64 k) ∧ σ' = σ.new (itemCells x ih id b) ∧ nob a t k) a.terms.length
   ⟨0, by omega, by omega, by simp [upd, h2], by simp [upd, h1], by simp [upd, h5], rfl, rfl, by simp [nob]⟩ ?_
  rintro m2 s2 σ2 ⟨k, rfl, hk, g2, g1, g5, g6, rfl, hno2⟩
  by_cases hlt2 : k < a.terms.length
  ·have hts := map_str_get hlt2
   repeat' (first
 |with_reducible first|apply Xa|apply Xb|(refine Xc ?_;intro κ hκ)|(apply hκ.out;clear hκ κ)|apply Xd|apply Xe|apply Xf
 |((with_reducible first|refine Xl ?_ ?_|refine Xk ?_ ?_)<;> intro h hari<;> try exact Xp)
 |refine Xr ?_
 |exact True.intro
 |(apply hκ.out;clear hκ κ))
   ·exact ⟨_, rfl, by rw [boundB, any_hit _ HG.out (any_hit _ (List.getElem?_eq_getElem hlt2) (by simp [*]))], by exact Xs⟩
   all_goals exact ⟨a.terms.length - (k + 1), by omega, k + 1, rfl, by omega, by simp, by unfold nob at *; rw [any_take_succ _ (List.getElem?_eq_getElem hlt2), hno2]; simp [*]⟩
  ·have hkl : k = a.terms.length := by omega
   subst hkl
   repeat' (first
 |with_reducible first|apply Xa|apply Xb|(refine Xc ?_;intro κ hκ)|(apply hκ.out;clear hκ κ)|apply Xd|apply Xe|apply Xf
 |((with_reducible first|refine Xl ?_ ?_|refine Xk ?_ ?_)<;> intro h hari<;> try exact Xp)
 |refine Xr ?_
 |exact True.intro
 |(apply hκ.out;clear hκ κ))
   refine ⟨x.body.length - (j + 1), by omega, j + 1, rfl, by omega, by simp, ?_⟩
   unfold nobs nob at *
   rw [List.take_length] at hno2
   rw [any_take_succ _ HG.out, hno, hno2]; rfl
 ·have hkl : j = x.body.length := by omega
  subst hkl
  repeat' (first
 |with_reducible first|apply Xa|apply Xb|(refine Xc ?_;intro κ hκ)|(apply hκ.out;clear hκ κ)|apply Xd|apply Xe|apply Xf
 |((with_reducible first|refine Xl ?_ ?_|refine Xk ?_ ?_)<;> intro h hari<;> try exact Xp)
 |refine Xr ?_
 |exact True.intro
 |(apply hκ.out;clear hκ κ))
  unfold nobs at hno
  rw [List.take_length] at hno
  exact ⟨_, rfl, by rw [boundB, hno], by exact Xs⟩
end Go.Proofs.YtmoeoppbmhfbpaaGreatDoorY
