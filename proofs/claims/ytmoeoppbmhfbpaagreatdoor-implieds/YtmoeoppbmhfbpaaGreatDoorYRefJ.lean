import Derived.Test.YtmoeoppbmhfbpaaGreatDoorYRefH
/- The document's own answer: odd numbers of terms. -/
namespace Go.Proofs.YtmoeoppbmhfbpaaGreatDoorY
open Go.Abs
set_option linter.unusedSimpArgs false
set_option linter.unusedVariables false
set_option maxRecDepth 100000
def clash (a b : RAtom) : Bool := b.pred == a.pred && decide (b.terms.length ≠ a.terms.length)
def priorL (l : List RItem) (i : Nat) : List RAtom := (l.take i).flatMap atomsL
def seenL (l : List RItem) (x : RItem) (i j : Nat) : List RAtom := priorL l i ++ (atomsL x).take j
def oddAt (l : List RItem) (x : RItem) (i j : Nat) : Bool := match (atomsL x)[j]? with | some a => (seenL l x i j).any (clash a) | none => false
def oddP (l : List RItem) (i : Nat) : Bool := match l[i]? with | some x => (List.range (atomsL x).length).any (oddAt l x i) | none => false
def noO (l : List RItem) (i : Nat) : Prop := ∀ a, a < i → oddP l a = false
def noOj (l : List RItem) (x : RItem) (i j : Nat) : Prop := ∀ b, b < j → oddAt l x i b = false
def noOk (a : RAtom) (s : List RAtom) (k : Nat) : Prop := (s.take k).any (clash a) = false
theorem seen_succ {l : List RItem} {x : RItem} {i j : Nat} {a : RAtom} (h : (atomsL x)[j]? = some a) : seenL l x i (j + 1) = seenL l x i j ++ [a] := by
 unfold seenL; rw [List.take_add_one, h, List.append_assoc]; rfl
theorem seen_succ' {l : List RItem} {x : RItem} {i j : Nat} {a : RAtom} (h : (atomsL x)[j]? = some a) : (seenL l x i (j + 1)).length = (seenL l x i j).length + 1 := by
 rw [seen_succ h]; simp
theorem seen_next {l : List RItem} {x : RItem} {i : Nat} (h : l[i]? = some x) : seenL l x i (atomsL x).length = seenL l x (i + 1) 0 := by
 unfold seenL priorL; rw [List.take_length, List.take_add_one, h, List.take_zero, List.append_nil]; simp
theorem RItem.fits.atoms {x : RItem} (h : x.fits) : (atomsL x).length ≤ 1001 := by
 obtain ⟨f1, f2, f3⟩ := h
 unfold atomsL; split <;> simp <;> omega
theorem prior_le {l : List RItem} (hf : ∀ x ∈ l, x.fits) : ∀ i, (priorL l i).length ≤ i * 1001 := by
 intro i
 induction i with
 | zero => simp [priorL]
 | succ i ih =>
  unfold priorL at *
  rw [List.take_add_one, List.flatMap_append, List.length_append]
  cases h : l[i]? with
  | none => simp only [Option.toList_none, List.flatMap_nil, List.length_nil]; omega
  | some x =>
   have := (hf x (List.mem_of_getElem? h)).atoms
   simp only [Option.toList_some, List.flatMap_cons, List.flatMap_nil, List.append_nil]; omega
set_option maxHeartbeats 16000000 in
theorem odd_spec (l : List RItem) (cs : List AV) (idl : Nat) (hE : EL EItem l cs) (hl : l.length ≤ 16) (hf : ∀ x ∈ l, x.fits) (σ : St) : ACalls Tryz.prog 176 [sl idl l.length cs] σ fun r σ' => r = sc (.int .i64 (firstN (oddP l) l.length)) ∧ Keep σ σ' := by
 have hcl := EL.length EItem_len hE
 refine acalls 65 [.tmp 2] Tryz.func176 rfl (by decide) rfl rfl (Nat.le_of_ble_eq_true rfl) ?_
 repeat' (first
 |with_reducible first|apply Xa|apply Xb|(refine Xc ?_;intro κ hκ)|(apply hκ.out;clear hκ κ)|apply Xd|apply Xe|apply Xf
 |((with_reducible first|refine Xl ?_ ?_|refine Xm ?_ ?_|refine Xk ?_ ?_)<;> intro h hari<;> try exact Xp)
 |((with_reducible refine aapp_go ?_);refine Xt ?_;intro idn σn hOn hKn eobj enobj ever entop)
 |((with_reducible refine aappn_go ?_);refine Xu ?_)
 |refine Xr ?_
 |exact True.intro
 |((with_reducible refine Xg ?_);refine Xj ?_)
 |(apply hκ.out;clear hκ κ))
 refine awp_loop (fun m s σ' => ∃ (i ids : Nat) (ss : List AV), m = l.length - i ∧ i ≤ l.length ∧ s 0 = sl idl l.length cs ∧ s 3 = sl ids (priorL l i).length ss ∧ s 4 = sc (.int .i64 i) ∧ Keep σ σ' ∧ Own σ σ' ids (priorL l i).length ∧ EL EAtom (priorL l i) ss ∧ noO l i) l.length
  ⟨0, 1, [], by omega, by omega, rfl, rfl, rfl, Keep.refl _, Own.nil _ _, rfl, fun a h => by omega⟩ ?_
 rintro m s σ' ⟨i, ids, ss, rfl, hi, h0, h3, h4, hK, hO, hS, hno⟩
 have hpl := prior_le hf i
 by_cases hlt : i < l.length
 ·obtain ⟨ih1, id1, b1, r1, hb1, hd1⟩ := EL_item hE (List.getElem?_eq_getElem hlt)
  have hf1 := hf l[i] (List.getElem_mem hlt)
  have HX : Abs.Hid (l[i]? = some l[i]) := List.getElem?_eq_getElem hlt
  generalize l[i] = x at hb1 hd1 hf1 HX
  have hal := hf1.atoms
  repeat' (first
 |with_reducible first|apply Xa|apply Xb|(refine Xc ?_;intro κ hκ)|(apply hκ.out;clear hκ κ)|apply Xd|apply Xe|apply Xf
 |((with_reducible first|refine Xl ?_ ?_|refine Xm ?_ ?_|refine Xk ?_ ?_)<;> intro h hari<;> try exact Xp)
 |((with_reducible refine aapp_go ?_);refine Xt ?_;intro idn σn hOn hKn eobj enobj ever entop)
 |((with_reducible refine aappn_go ?_);refine Xu ?_)
 |((with_reducible refine Xh ?_);refine Xi (atoms_spec _ _ (EItem.of hb1) (by have:=hf1.1;omega) _) ?_;rintro _ _ ⟨ida,cs2,rfl,hE2,hK2⟩)
 |refine Xr ?_
 |exact True.intro
 |((with_reducible refine Xg ?_);refine Xj ?_)
 |(apply hκ.out;clear hκ κ))
  rename_i σ1
  have hcl2 := EL.length EAtom_len hE2
  refine awp_loop (fun m s σ' => ∃ (j ids : Nat) (ss : List AV), m = (atomsL x).length - j ∧ j ≤ (atomsL x).length ∧ s 0 = sl idl l.length cs ∧ s 3 = sl ids (seenL l x i j).length ss ∧ s 4 = sc (.int .i64 i) ∧ s 5 = sl ida (atomsL x).length cs2 ∧ s 6 = sc (.int .i64 j) ∧ Keep σ σ' ∧ Own σ σ' ids (seenL l x i j).length ∧ EL EAtom (seenL l x i j) ss ∧ noOj l x i j) (atomsL x).length
   ⟨0, ids, ss, by omega, by omega, by simp [upd, h0], by simp [upd, h3, seenL], by simp [upd, h4], by simp [upd], rfl, hK.trans hK2, by simpa [seenL] using hO.keep hK2, by simpa [seenL] using hS, fun b h => by omega⟩ ?_
  clear hK hO hS h0 h3 h4 hK2 ids ss
  rintro m s σ' ⟨j, ids, ss, rfl, hj, h0, h3, h4, h5, h6, hK, hO, hS, hno2⟩
  have hsl : (seenL l x i j).length ≤ 100000 := by unfold seenL; simp; omega
  by_cases hlt2 : j < (atomsL x).length
  ·obtain ⟨ia, r, hd⟩ := EL_atom hE2 (List.getElem?_eq_getElem hlt2)
   have HG : Abs.Hid ((atomsL x)[j]? = some (atomsL x)[j]) := List.getElem?_eq_getElem hlt2
   generalize (atomsL x)[j] = a at hd HG
   have hss := EL.length EAtom_len hS
   repeat' (first
 |with_reducible first|apply Xa|apply Xb|(refine Xc ?_;intro κ hκ)|(apply hκ.out;clear hκ κ)|apply Xd|apply Xe|apply Xf
 |((with_reducible first|refine Xl ?_ ?_|refine Xm ?_ ?_|refine Xk ?_ ?_)<;> intro h hari<;> try exact Xp)
 |((with_reducible refine aapp_go ?_);refine Xt ?_;intro idn σn hOn hKn eobj enobj ever entop)
 |((with_reducible refine aappn_go ?_);refine Xu ?_)
 |refine Xr ?_
 |exact True.intro
 |((with_reducible refine Xg ?_);refine Xj ?_)
 |(apply hκ.out;clear hκ κ))
   refine awp_loop (fun m s σ' => ∃ k : Nat, m = (seenL l x i j).length - k ∧ k ≤ (seenL l x i j).length ∧ s 0 = sl idl l.length cs ∧ s 3 = sl ids (seenL l x i j).length ss ∧ s 4 = sc (.int .i64 i) ∧ s 5 = sl ida (atomsL x).length cs2 ∧ s 6 = sc (.int .i64 j) ∧ s 7 = sc (.int .i64 k) ∧ Keep σ σ' ∧ Own σ σ' ids (seenL l x i j).length ∧ noOk a (seenL l x i j) k) (seenL l x i j).length
    ⟨0, by omega, by omega, by simp [upd, h0], by simp [upd, h3], by simp [upd, h4], by simp [upd, h5], by simp [upd, h6], rfl, hK, hO, by simp [noOk]⟩ ?_
   clear hK hO h0 h3 h4 h5 h6
   rintro m s σ' ⟨k, rfl, hk, h0, h3, h4, h5, h6, h7, hK, hO, hno3⟩
   by_cases hlt3 : k < (seenL l x i j).length
   ·obtain ⟨ib, r', hd'⟩ := EL_atom hS (List.getElem?_eq_getElem hlt3)
    have HB : Abs.Hid ((seenL l x i j)[k]? = some (seenL l x i j)[k]) := List.getElem?_eq_getElem hlt3
    generalize (seenL l x i j)[k] = b at hd' HB
    repeat' (first
 |with_reducible first|apply Xa|apply Xb|(refine Xc ?_;intro κ hκ)|(apply hκ.out;clear hκ κ)|apply Xd|apply Xe|apply Xf
 |((with_reducible first|refine Xl ?_ ?_|refine Xm ?_ ?_|refine Xk ?_ ?_)<;> intro h hari<;> try exact Xp)
 |((with_reducible refine aapp_go ?_);refine Xt ?_;intro idn σn hOn hKn eobj enobj ever entop)
 |((with_reducible refine aappn_go ?_);refine Xu ?_)
 |refine Xr ?_
 |exact True.intro
 |((with_reducible refine Xg ?_);refine Xj ?_)
 |(apply hκ.out;clear hκ κ))
    refine awp_draw_k follows_mixed (fun _ => True) [25] [0, 1, 2, 3, 4, 5, 6, 7, 8, 9, 10, 11, 12, 13, 14, 15, 16, 17, 18, 19, 20, 21, 22, 23, 24] [25] (by kernel_rfl) (fun _ _ _ h => h) ?_
    intro κ hκ
    refine Xr ?_
    repeat' (first
 |with_reducible first|apply Xa|apply Xb|(refine Xc ?_;intro κ hκ)|(apply hκ.out;clear hκ κ)|apply Xd|apply Xe|apply Xf
 |((with_reducible first|refine Xl ?_ ?_|refine Xm ?_ ?_|refine Xk ?_ ?_)<;> intro h hari<;> try exact Xp)
 |((with_reducible refine aapp_go ?_);refine Xt ?_;intro idn σn hOn hKn eobj enobj ever entop)
 |((with_reducible refine aappn_go ?_);refine Xu ?_)
 |refine Xr ?_
 |exact True.intro
 |((with_reducible refine Xg ?_);refine Xj ?_)
 |(apply hκ.out;clear hκ κ))
    all_goals
     first
     | exact ⟨_, rfl, by
       rw [firstN_hit (p := oddP l) hlt ?_ hno]
       unfold oddP; rw [HX.out]
       refine any_hit (k := j) (a := j) _ (by simp [hlt2]) ?_
       unfold oddAt; rw [HG.out]
       refine any_hit _ HB.out ?_
       simp [clash, *]
       first | done | (simp at h; omega)⟩
     | exact ⟨(seenL l x i j).length - (k + 1), by omega, k + 1, rfl, by omega, by simp, by
       unfold noOk at *
       rw [any_take_succ _ HB.out, hno3]
       first
       | (simp [clash, *]; done)
       | (simp [clash]; intro _; simp at h; omega)⟩
   ·have hkl : k = (seenL l x i j).length := by omega
    have hnk : oddAt l x i j = false := by
     unfold oddAt
     rw [HG.out]
     rw [hkl] at hno3
     unfold noOk at hno3
     rw [List.take_length] at hno3
     exact hno3
    have HN : Abs.Hid (oddAt l x i j = false) := hnk
    clear hnk
    subst hkl
    repeat' (first
 |with_reducible first|apply Xa|apply Xb|(refine Xc ?_;intro κ hκ)|(apply hκ.out;clear hκ κ)|apply Xd|apply Xe|apply Xf
 |((with_reducible first|refine Xl ?_ ?_|refine Xm ?_ ?_|refine Xk ?_ ?_)<;> intro h hari<;> try exact Xp)
 |((with_reducible refine aapp_go ?_);refine Xt ?_;intro idn σn hOn hKn eobj enobj ever entop)
 |((with_reducible refine aappn_go ?_);refine Xu ?_)
 |refine Xr ?_
 |exact True.intro
 |((with_reducible refine Xg ?_);refine Xj ?_)
 |(apply hκ.out;clear hκ κ))
    rw [← seen_succ' (l := l) (i := i) HG.out] at hOn
    refine ⟨(atomsL x).length - (j + 1), by omega, j + 1, idn, _, rfl, by omega, by rw [seen_succ' HG.out], by simp, hOn, by rw [seen_succ HG.out]; exact hS.append (EL.single ⟨_, rfl⟩), ?_⟩
    intro b hb
    by_cases hbj : b = j
    ·subst hbj; exact HN.out
    ·exact hno2 b (by omega)
  ·have hjl : j = (atomsL x).length := by omega
   subst hjl
   rw [seen_next HX.out] at h3 hO hS
   repeat' (first
 |with_reducible first|apply Xa|apply Xb|(refine Xc ?_;intro κ hκ)|(apply hκ.out;clear hκ κ)|apply Xd|apply Xe|apply Xf
 |((with_reducible first|refine Xl ?_ ?_|refine Xm ?_ ?_|refine Xk ?_ ?_)<;> intro h hari<;> try exact Xp)
 |((with_reducible refine aapp_go ?_);refine Xt ?_;intro idn σn hOn hKn eobj enobj ever entop)
 |((with_reducible refine aappn_go ?_);refine Xu ?_)
 |refine Xr ?_
 |exact True.intro
 |((with_reducible refine Xg ?_);refine Xj ?_)
 |(apply hκ.out;clear hκ κ))
   refine ⟨l.length - (i + 1), by omega, i + 1, ids, ss, rfl, by omega, by simp [seenL], by simp, by simpa [seenL] using hO, by simpa [seenL] using hS, ?_⟩
   intro a ha
   by_cases hai : a = i
   ·subst hai
    unfold oddP
    rw [HX.out]
    simp only
    rw [List.any_eq_false]
    intro b hb
    rw [List.mem_range] at hb
    simp [hno2 b hb]
   ·exact hno a (by omega)
 ·have hil : i = l.length := by omega
  subst hil
  repeat' (first
 |with_reducible first|apply Xa|apply Xb|(refine Xc ?_;intro κ hκ)|(apply hκ.out;clear hκ κ)|apply Xd|apply Xe|apply Xf
 |((with_reducible first|refine Xl ?_ ?_|refine Xm ?_ ?_|refine Xk ?_ ?_)<;> intro h hari<;> try exact Xp)
 |((with_reducible refine aapp_go ?_);refine Xt ?_;intro idn σn hOn hKn eobj enobj ever entop)
 |((with_reducible refine aappn_go ?_);refine Xu ?_)
 |refine Xr ?_
 |exact True.intro
 |((with_reducible refine Xg ?_);refine Xj ?_)
 |(apply hκ.out;clear hκ κ))
  first
  | exact ⟨_, rfl, by rw [firstN_none hno], hK⟩
  | exact ⟨_, rfl, by rw [firstN_none hno]⟩
/- The document's own answer: what is wrong. -/
def unsafeP (l : List RItem) (i : Nat) : Bool := match l[i]? with | some x => !safeB x | none => false
def noS (l : List RItem) (i : Nat) : Prop := ∀ a, a < i → unsafeP l a = false
def wrongM (l : List RItem) : Int × Int :=
 if 0 ≤ firstN (oddP l) l.length then (3, firstN (oddP l) l.length)
 else if 0 ≤ firstN (unsafeP l) l.length then (4, firstN (unsafeP l) l.length)
 else if 0 ≤ firstN (knotP l) l.length then (5, firstN (knotP l) l.length)
 else (0, 0)
abbrev two (p : Int × Int) : AV := tp [sc (.int .i64 p.1), sc (.int .i64 p.2)]
theorem firstN_lt {p : Nat → Bool} {n : Nat} : firstN p n < n + 1 := by
 unfold firstN
 split
 ·rename_i i h
  have := List.mem_of_find?_eq_some h
  simp at this; omega
 ·omega
theorem firstN_ge {p : Nat → Bool} {n : Nat} : -1 ≤ firstN p n := by
 unfold firstN
 split <;> omega
set_option maxHeartbeats 16000000 in
theorem wrong_spec (l : List RItem) (cs : List AV) (idl : Nat) (hE : EL EItem l cs) (hl : l.length ≤ 16) (hf : ∀ x ∈ l, x.fits) (σ : St) : ACalls Tryz.prog 135 [sl idl l.length cs] σ fun r σ' => r = two (wrongM l) ∧ Keep σ σ' := by
 have hcl := EL.length EItem_len hE
 have g1 := @firstN_ge (oddP l) l.length
 have g2 := @firstN_lt (oddP l) l.length
 have g3 := @firstN_ge (knotP l) l.length
 have g4 := @firstN_lt (knotP l) l.length
 refine acalls 28 [.tmp 2, .tmp 3] Tryz.func135 rfl (by decide) rfl rfl (Nat.le_of_ble_eq_true rfl) ?_
 repeat' (first
 |with_reducible first|apply Xa|apply Xb|(refine Xc ?_;intro κ hκ)|(apply hκ.out;clear hκ κ)|apply Xd|apply Xe|apply Xf
 |((with_reducible first|refine Xl ?_ ?_|refine Xk ?_ ?_)<;> intro h hari<;> try exact Xp)
 |((with_reducible refine Xh ?_);refine Xi (odd_spec l cs idl hE hl hf _) ?_;rintro _ _ ⟨rfl,hK1⟩)
 |refine Xr ?_
 |exact True.intro
 |(apply hκ.out;clear hκ κ))
 ·first
  | exact ⟨_, rfl, by unfold wrongM; rw [if_pos (by simpa using h)], by assumption⟩
  | exact ⟨_, rfl, by unfold wrongM; rw [if_pos (by simpa using h)]⟩
 ·have ho : ¬ 0 ≤ firstN (oddP l) l.length := by simpa using h
  have HO : Abs.Hid (¬ 0 ≤ firstN (oddP l) l.length) := ho
  clear ho hari h g1 g2
  rename_i σ1
  refine awp_loop (fun m s σ' => ∃ i : Nat, m = l.length - i ∧ i ≤ l.length ∧ s 0 = sl idl l.length cs ∧ s 4 = sc (.int .i64 i) ∧ Keep σ σ' ∧ noS l i) l.length
   ⟨0, by omega, by omega, rfl, rfl, hK1, fun a h => by omega⟩ ?_
  rintro m s σ' ⟨i, rfl, hi, h0, h4, hK, hno⟩
  clear hK1
  by_cases hlt : i < l.length
  ·obtain ⟨ih1, id1, b1, r1, hb1, hd1⟩ := EL_item hE (List.getElem?_eq_getElem hlt)
   have hf1 := hf l[i] (List.getElem_mem hlt)
   have HX : Abs.Hid (l[i]? = some l[i]) := List.getElem?_eq_getElem hlt
   generalize l[i] = x at hb1 hd1 hf1 HX
   repeat' (first
 |with_reducible first|apply Xa|apply Xb|(refine Xc ?_;intro κ hκ)|(apply hκ.out;clear hκ κ)|apply Xd|apply Xe|apply Xf
 |((with_reducible first|refine Xl ?_ ?_|refine Xk ?_ ?_)<;> intro h hari<;> try exact Xp)
 |((with_reducible refine Xh ?_);refine Xi (safe_spec _ _ (EItem.of hb1) hf1 _) ?_;rintro _ _ ⟨rfl,hKs⟩)
 |refine Xr ?_
 |exact True.intro
 |(apply hκ.out;clear hκ κ))
   ·have hu : firstN (unsafeP l) l.length = i := firstN_hit hlt (by unfold unsafeP; rw [HX.out]; simpa using h) hno
    exact ⟨_, rfl, by unfold wrongM; rw [if_neg HO.out, hu, if_pos (by omega)], hK.trans hKs⟩
   ·have hsx : safeB x = true := h
    exact ⟨l.length - (i + 1), by omega, i + 1, rfl, by omega, by simp, hK.trans hKs, fun a ha => by
     by_cases hai : a = i
     ·subst hai; unfold unsafeP; rw [HX.out]; simp [hsx]
     ·exact hno a (by omega)⟩
  ·have hil : i = l.length := by omega
   subst hil
   have hu := firstN_none (p := unsafeP l) hno
   have HU : Abs.Hid (¬ 0 ≤ firstN (unsafeP l) l.length) := by rw [hu]; simp [Abs.Hid]
   clear hu hno
   repeat' (first
 |with_reducible first|apply Xa|apply Xb|(refine Xc ?_;intro κ hκ)|(apply hκ.out;clear hκ κ)|apply Xd|apply Xe|apply Xf
 |((with_reducible first|refine Xl ?_ ?_|refine Xk ?_ ?_)<;> intro h hari<;> try exact Xp)
 |((with_reducible refine Xh ?_);refine Xi (knot_spec l cs idl hE hl hf _) ?_;rintro _ _ ⟨rfl,hKs⟩)
 |refine Xr ?_
 |exact True.intro
 |(apply hκ.out;clear hκ κ))
   ·exact ⟨_, rfl, by unfold wrongM; rw [if_neg HO.out, if_neg HU.out, if_pos (by simpa using h)], hK.trans hKs⟩
   ·exact ⟨_, rfl, by unfold wrongM; rw [if_neg HO.out, if_neg HU.out, if_neg (by simpa using h)], hK.trans hKs⟩
end Go.Proofs.YtmoeoppbmhfbpaaGreatDoorY
