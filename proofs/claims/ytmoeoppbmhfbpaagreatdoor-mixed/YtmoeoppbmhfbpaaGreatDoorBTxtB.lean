import Derived.Test.YtmoeoppbmhfbpaaGreatDoorBEngU
import Derived.Test.YtmoeoppbmhfbpaaGreatDoorBProgR
/- Plain texts, walked: pieces, among, count, atoms. -/
namespace Go.Proofs.YtmoeoppbmhfbpaaGreatDoorB
open Go.Abs
set_option linter.unusedSimpArgs false
set_option linter.unusedVariables false
set_option maxRecDepth 100000
theorem byte_is {b c : UInt8} : ((b.toNat : Int) == (c.toNat : Int)) = decide (b = c) := by
 by_cases h : b = c
 ·subst h; simp
 ·rw [decide_eq_false h]
  have : b.toNat ≠ c.toNat := fun e => h (UInt8.toNat_inj.1 e)
  simpa using (by omega : ¬ (b.toNat : Int) = c.toNat)
theorem fold_take {α : Type} {f : α → UInt8 → α} {a : α} {t : Tx} {i : Nat} {c : UInt8} (h : t[i]? = some c) : (t.take (i + 1)).foldl f a = f ((t.take i).foldl f a) c := by
 rw [List.take_add_one, h, Option.toList_some, List.foldl_append]; rfl
theorem cur_step {t : Tx} {f i : Nat} {c : UInt8} (hf : f ≤ i) (h : t[i]? = some c) : (t.drop f).take (i + 1 - f) = (t.drop f).take (i - f) ++ [c] := by
 rw [show i + 1 - f = (i - f) + 1 by omega, List.take_add_one, List.getElem?_drop, show f + (i - f) = i by omega, h]
 rfl
theorem cur_nil (t : Tx) (i : Nat) : (t.drop i).take (i - i) = [] := by simp
set_option maxHeartbeats 8000000 in
theorem kpieces_spec (t : Tx) (ht : t.length ≤ 1000000) (σ : St) : ACalls Tryz.prog 22 [str t] σ fun r σ' => (∃ id, r = sl id (pcsL t).length ((pcsL t).map str)) ∧ Keep σ σ' := by
 refine acalls 37 [.tmp 2] Tryz.func22 rfl (by decide) rfl rfl (Nat.le_of_ble_eq_true rfl) ?_
 repeat' (first
 |with_reducible first|apply Xa|apply Xb|(refine Xc ?_;intro κ hκ)|(apply hκ.out;clear hκ κ)|apply Xd|apply Xe|apply Xf
 |((with_reducible first|refine Xl ?_ ?_|refine Xk ?_ ?_)<;> intro h hari<;> try exact Xp)
 |((with_reducible refine aapp_go ?_);refine Xt ?_;intro idn σn hOn hKn eobj enobj ever entop)
 |((with_reducible refine aappn_go ?_);refine Xu ?_)
 |refine Xr ?_
 |exact True.intro
 |(apply hκ.out;clear hκ κ))
 refine awp_loop (fun m s σ' => ∃ (i f id : Nat) (d : List Tx), m = t.length - i ∧ i ≤ t.length ∧ f ≤ i ∧ s 0 = str t ∧ s 3 = sl id d.length (d.map str) ∧ s 4 = sc (.int .i64 f) ∧ s 5 = sc (.int .i64 i) ∧ Keep σ σ' ∧ Own σ σ' id d.length ∧ d.length ≤ i ∧ Abs.Hid ((t.take i).foldl pcF ([], []) = (d, (t.drop f).take (i - f)))) t.length
  ⟨0, 0, 1, [], by omega, by omega, by omega, rfl, rfl, rfl, rfl, Keep.refl _, Own.nil _ _, by simp, by simp [Abs.Hid]⟩ ?_
 rintro m s σ' ⟨i, f, id, d, rfl, hi, hf, h0, h3, h4, h5, hK, hO, hdl, hF⟩
 by_cases hlt : i < t.length
 ·have hget := List.getElem?_eq_getElem hlt
  generalize t[i] = c at hget
  by_cases hc : c = 46
  ·have hb : ((c.toNat : Int) == 46) = true := by rw [hc]; rfl
   have HF : Abs.Hid ((t.take (i + 1)).foldl pcF ([], []) = (d ++ [(t.drop f).take (i + 1 - f)], (t.drop (i + 1)).take (i + 1 - (i + 1)))) := by
    rw [Abs.Hid, fold_take hget, hF.out, cur_step hf hget, cur_nil, hc]; rfl
   clear hF hc
   repeat' (first
 |with_reducible first|apply Xa|apply Xb|(refine Xc ?_;intro κ hκ)|(apply hκ.out;clear hκ κ)|apply Xd|apply Xe|apply Xf
 |((with_reducible first|refine Xl ?_ ?_|refine Xk ?_ ?_)<;> intro h hari<;> try exact Xp)
 |((with_reducible refine aapp_go ?_);refine Xt ?_;intro idn σn hOn hKn eobj enobj ever entop)
 |((with_reducible refine aappn_go ?_);refine Xu ?_)
 |refine Xr ?_
 |exact True.intro
 |(apply hκ.out;clear hκ κ))
   refine ⟨t.length - (i + 1), by omega, i + 1, i + 1, idn, d ++ [(t.drop f).take (i + 1 - f)], ?_⟩
   ((repeat' with_reducible refine And.intro ?_ ?_)<;> first|exact Xq|exact (HF)|exact ((by simpa using hOn))|exact Xs)
  ·have hb : ((c.toNat : Int) == 46) = false := by rw [show (46 : Int) = ((46 : UInt8).toNat : Int) from rfl, byte_is]; simpa using hc
   have HF : Abs.Hid ((t.take (i + 1)).foldl pcF ([], []) = (d, (t.drop f).take (i + 1 - f))) := by
    rw [Abs.Hid, fold_take hget, hF.out, cur_step hf hget, pcF, if_neg hc]
   clear hF hc
   repeat' (first
 |with_reducible first|apply Xa|apply Xb|(refine Xc ?_;intro κ hκ)|(apply hκ.out;clear hκ κ)|apply Xd|apply Xe|apply Xf
 |((with_reducible first|refine Xl ?_ ?_|refine Xk ?_ ?_)<;> intro h hari<;> try exact Xp)
 |((with_reducible refine aapp_go ?_);refine Xt ?_;intro idn σn hOn hKn eobj enobj ever entop)
 |((with_reducible refine aappn_go ?_);refine Xu ?_)
 |refine Xr ?_
 |exact True.intro
 |(apply hκ.out;clear hκ κ))
   refine ⟨t.length - (i + 1), by omega, i + 1, f, id, d, ?_⟩
   ((repeat' with_reducible refine And.intro ?_ ?_)<;> first|exact Xq|exact (HF)|exact Xs)
 ·have hil : i = t.length := by omega
  subst hil
  have hF' := hF.out
  rw [List.take_length, List.take_of_length_le (by simp)] at hF'
  by_cases hfe : f < t.length
  ·have HP : Abs.Hid (pcsL t = d ++ [t.drop f]) := by
    rw [Abs.Hid, pcsL, hF', if_neg (by intro e; have := congrArg List.length e; simp at this; omega)]
   clear hF hF'
   repeat' (first
 |with_reducible first|apply Xa|apply Xb|(refine Xc ?_;intro κ hκ)|(apply hκ.out;clear hκ κ)|apply Xd|apply Xe|apply Xf
 |((with_reducible first|refine Xl ?_ ?_|refine Xk ?_ ?_)<;> intro h hari<;> try exact Xp)
 |((with_reducible refine aapp_go ?_);refine Xt ?_;intro idn σn hOn hKn eobj enobj ever entop)
 |((with_reducible refine aappn_go ?_);refine Xu ?_)
 |refine Xr ?_
 |exact True.intro
 |(apply hκ.out;clear hκ κ))
   first | refine ⟨_, rfl, ⟨idn, ?_⟩, hKn⟩ | refine ⟨_, rfl, idn, ?_⟩
   rw [HP.out]
   simp
   try rw [List.take_of_length_le (by simp)]
  ·have HP : Abs.Hid (pcsL t = d) := by
    rw [Abs.Hid, pcsL, hF', if_pos (by apply List.eq_nil_of_length_eq_zero; simp; omega)]
   clear hF hF'
   repeat' (first
 |with_reducible first|apply Xa|apply Xb|(refine Xc ?_;intro κ hκ)|(apply hκ.out;clear hκ κ)|apply Xd|apply Xe|apply Xf
 |((with_reducible first|refine Xl ?_ ?_|refine Xk ?_ ?_)<;> intro h hari<;> try exact Xp)
 |((with_reducible refine aapp_go ?_);refine Xt ?_;intro idn σn hOn hKn eobj enobj ever entop)
 |((with_reducible refine aappn_go ?_);refine Xu ?_)
 |refine Xr ?_
 |exact True.intro
 |(apply hκ.out;clear hκ κ))
   first | exact ⟨_, rfl, ⟨id, by rw [HP.out]⟩, hK⟩ | exact ⟨_, rfl, id, by rw [HP.out]⟩
set_option maxHeartbeats 4000000 in
theorem kamong_spec (l : List Tx) (ids : Nat) (u : Tx) (hl : l.length ≤ 2000000) (σ : St) : ACalls Tryz.prog 25 [sl ids l.length (l.map str), str u] σ fun r σ' => r = sc (.bool (decide (u ∈ l))) ∧ σ' = σ := by
 refine acalls 18 [.tmp 4] Tryz.func25 rfl (by decide) rfl rfl (Nat.le_of_ble_eq_true rfl) ?_
 repeat' (first
 |with_reducible first|apply Xa|apply Xb|(refine Xc ?_;intro κ hκ)|(apply hκ.out;clear hκ κ)|apply Xd|apply Xe|apply Xf
 |((with_reducible first|refine Xl ?_ ?_|refine Xk ?_ ?_)<;> intro h hari<;> try exact Xp)
 |refine Xr ?_
 |exact True.intro
 |(apply hκ.out;clear hκ κ))
 refine awp_loop (fun m s σ' => ∃ i : Nat, m = l.length - i ∧ i ≤ l.length ∧ s 0 = sl ids l.length (l.map str) ∧ s 1 = str u ∧ s 5 = sc (.int .i64 i) ∧ σ' = σ ∧ Abs.Hid (u ∉ l.take i)) l.length
  ⟨0, by omega, by omega, rfl, rfl, rfl, rfl, by simp [Abs.Hid]⟩ ?_
 rintro m s σ' ⟨i, rfl, hi, h0, h1, h5, hσ, hno⟩
 by_cases hlt : i < l.length
 ·have hdr := map_str_get hlt
  have hget := List.getElem?_eq_getElem hlt
  generalize l[i] = w at hdr hget
  by_cases hw : w = u
  ·subst hw
   have HM : Abs.Hid (decide (w ∈ l) = true) := by rw [Abs.Hid]; simpa using List.mem_of_getElem? hget
   clear hget hno
   have hb : (w == w) = true := by simp
   repeat' (first
 |with_reducible first|apply Xa|apply Xb|(refine Xc ?_;intro κ hκ)|(apply hκ.out;clear hκ κ)|apply Xd|apply Xe|apply Xf
 |((with_reducible first|refine Xl ?_ ?_|refine Xk ?_ ?_)<;> intro h hari<;> try exact Xp)
 |refine Xr ?_
 |exact True.intro
 |(apply hκ.out;clear hκ κ))
   first | exact ⟨_, rfl, by rw [HM.out], by assumption⟩ | exact ⟨_, rfl, by rw [HM.out]⟩
  ·have hb : (w == u) = false := by simpa using hw
   have HN : Abs.Hid (u ∉ l.take (i + 1)) := by
    rw [Abs.Hid, List.take_add_one, hget, Option.toList_some]
    simp only [List.mem_append, List.mem_singleton, not_or]
    exact ⟨hno.out, fun e => hw e.symm⟩
   clear hget hno hw
   repeat' (first
 |with_reducible first|apply Xa|apply Xb|(refine Xc ?_;intro κ hκ)|(apply hκ.out;clear hκ κ)|apply Xd|apply Xe|apply Xf
 |((with_reducible first|refine Xl ?_ ?_|refine Xk ?_ ?_)<;> intro h hari<;> try exact Xp)
 |refine Xr ?_
 |exact True.intro
 |(apply hκ.out;clear hκ κ))
   refine ⟨l.length - (i + 1), by omega, i + 1, ?_⟩
   ((repeat' with_reducible refine And.intro ?_ ?_)<;> first|exact Xq|exact (HN)|exact Xs)
 ·have hil : i = l.length := by omega
  have HM : Abs.Hid (decide (u ∈ l) = false) := by
   rw [Abs.Hid]
   have := hno.out
   rw [hil, List.take_length] at this
   simpa using this
  clear hno
  repeat' (first
 |with_reducible first|apply Xa|apply Xb|(refine Xc ?_;intro κ hκ)|(apply hκ.out;clear hκ κ)|apply Xd|apply Xe|apply Xf
 |((with_reducible first|refine Xl ?_ ?_|refine Xk ?_ ?_)<;> intro h hari<;> try exact Xp)
 |refine Xr ?_
 |exact True.intro
 |(apply hκ.out;clear hκ κ))
  first | exact ⟨_, rfl, by rw [HM.out], by assumption⟩ | exact ⟨_, rfl, by rw [HM.out]⟩
/- Plain texts, walked: predicates, the head, a pick. -/
def outB (t : Tx) : Bool := decide (t.head? = some 63)
set_option maxHeartbeats 4000000 in
theorem koutput_spec (t : Tx) (σ : St) : ACalls Tryz.prog 35 [str t] σ fun r σ' => r = sc (.bool (outB t)) ∧ σ' = σ := by
 cases t with
 | nil =>
  have he : (([] : Tx) != []) = false := rfl
  refine acalls 10 [.tmp 2] Tryz.func35 rfl (by decide) rfl rfl (Nat.le_of_ble_eq_true rfl) ?_
  repeat' (first
 |with_reducible first|apply Xa|apply Xb|(refine Xc ?_;intro κ hκ)|(apply hκ.out;clear hκ κ)|apply Xd|apply Xe|apply Xf
 |((with_reducible first|refine Xl ?_ ?_|refine Xk ?_ ?_)<;> intro h hari<;> try exact Xp)
 |refine Xr ?_
 |exact True.intro
 |(apply hκ.out;clear hκ κ))
  exact ⟨_, rfl, rfl⟩
 | cons c r =>
  have he : ((c :: r : Tx) != []) = true := rfl
  have hee : ((c :: r : Tx) == []) = false := rfl
  have hg : (c :: r : Tx)[0]? = some c := rfl
  have HO : Abs.Hid (outB (c :: r) = ((c.toNat : Int) == 63)) := by
   rw [Abs.Hid, show (63 : Int) = ((63 : UInt8).toNat : Int) from rfl, byte_is, outB]; simp
  generalize hb : ((c.toNat : Int) == 63) = b at HO
  cases b with
  | true =>
   refine acalls 10 [.tmp 2] Tryz.func35 rfl (by decide) rfl rfl (Nat.le_of_ble_eq_true rfl) ?_
   repeat' (first
 |with_reducible first|apply Xa|apply Xb|(refine Xc ?_;intro κ hκ)|(apply hκ.out;clear hκ κ)|apply Xd|apply Xe|apply Xf
 |((with_reducible first|refine Xl ?_ ?_|refine Xk ?_ ?_)<;> intro h hari<;> try exact Xp)
 |refine Xr ?_
 |exact True.intro
 |(apply hκ.out;clear hκ κ))
   first | exact ⟨_, rfl, by rw [HO.out]⟩ | exact ⟨_, rfl, by rw [HO.out], rfl⟩
  | false =>
   refine acalls 10 [.tmp 2] Tryz.func35 rfl (by decide) rfl rfl (Nat.le_of_ble_eq_true rfl) ?_
   repeat' (first
 |with_reducible first|apply Xa|apply Xb|(refine Xc ?_;intro κ hκ)|(apply hκ.out;clear hκ κ)|apply Xd|apply Xe|apply Xf
 |((with_reducible first|refine Xl ?_ ?_|refine Xk ?_ ?_)<;> intro h hari<;> try exact Xp)
 |refine Xr ?_
 |exact True.intro
 |(apply hκ.out;clear hκ κ))
   first | exact ⟨_, rfl, by rw [HO.out]⟩ | exact ⟨_, rfl, by rw [HO.out], rfl⟩
theorem ksmall_spec (c : Int) (σ : St) : ACalls Tryz.prog 51 [sc (.int .u8 c)] σ fun x σ' => x = sc (.bool (smallB c)) ∧ σ' = σ := by
 refine acalls 9 [.tmp 2] Tryz.func51 rfl (by decide) rfl rfl (Nat.le_of_ble_eq_true rfl) ?_
 repeat' (first
 |with_reducible first|apply Xa|apply Xb|(refine Xc ?_;intro κ hκ)|(apply hκ.out;clear hκ κ)|apply Xd|apply Xe|apply Xf
 |((with_reducible first|refine Xl ?_ ?_|refine Xk ?_ ?_)<;> intro h hari<;> try exact Xp)
 |refine Xr ?_
 |exact True.intro
 |(apply hκ.out;clear hκ κ))
 all_goals exact ⟨_, rfl, by simp [smallB, *]⟩
/-! ### The predicates of a piece -/
def prF (x : List Tx × Tx) (c : UInt8) : List Tx × Tx := if smallB c.toNat = true then (x.1, x.2 ++ [c]) else (if x.2 = [] then x.1 else x.1 ++ [x.2], [])
def prsL (t : Tx) : List Tx := (t.foldl prF ([], [])).1
theorem prF_small {x : List Tx × Tx} {c : UInt8} (h : smallB c.toNat = true) : prF x c = (x.1, x.2 ++ [c]) := if_pos h
theorem prF_other {x : List Tx × Tx} {c : UInt8} (h : smallB c.toNat = false) : prF x c = (if x.2 = [] then x.1 else x.1 ++ [x.2], []) := if_neg (by simp [h])
theorem pr_name : ∀ (t : Tx) (d : List Tx) (u : Tx), (∀ b ∈ t, smallB b.toNat = true) → t.foldl prF (d, u) = (d, u ++ t)
 | [], d, u, _ => by simp
 | c :: t, d, u, h => by
  rw [List.foldl_cons, prF_small (h c (by simp)), pr_name t _ _ fun b hb => h b (by simp [hb])]
  simp
theorem pr_skip : ∀ (t : Tx) (d : List Tx), (∀ b ∈ t, smallB b.toNat = false) → t.foldl prF (d, []) = (d, [])
 | [], d, _ => rfl
 | c :: t, d, h => by
  rw [List.foldl_cons, prF_other (h c (by simp)), if_pos rfl, pr_skip t _ fun b hb => h b (by simp [hb])]
theorem term_small {t : Tx} (h : WTerm t) {b : UInt8} (hb : b ∈ t) : smallB b.toNat = false := by
 rcases h.2 b hb with h | h <;> simp only [smallB, largeB, digitB, Bool.and_eq_true, decide_eq_true_eq, Bool.and_eq_false_iff, decide_eq_false_iff_not] at h ⊢ <;> omega
theorem pr_lit {a : RAtom} (h : WAtom a) (d : List Tx) : (uLit a).foldl prF (d, []) = (d ++ [a.pred], []) := by
 have e : uLit a = (if a.nt = true then [33] else []) ++ (a.pred ++ (40 :: (uList a.terms ++ [41]))) := by simp [uLit, uAtom]
 have h1 : ∀ b ∈ (if a.nt = true then [33] else [] : Tx), smallB b.toNat = false := fun b hb => by
  split at hb
  ·simp at hb; subst hb; decide
  ·cases hb
 have h2 : ∀ b ∈ uList a.terms ++ [41], smallB b.toNat = false := fun b hb => by
  rcases List.mem_append.1 hb with hb | hb
  ·rcases uList_byte hb with rfl | ⟨t, ht, hb⟩
   ·decide
   ·exact term_small (h.2.2.2 t ht) hb
  ·simp at hb; subst hb; decide
 rw [e, List.foldl_append, pr_skip (if a.nt = true then [33] else []) _ h1, List.foldl_append, pr_name a.pred _ _ h.1.2, List.nil_append, List.foldl_cons, prF_other (by decide), if_neg h.1.1, pr_skip _ _ h2]
set_option maxHeartbeats 8000000 in
theorem kpredicates_spec (t : Tx) (ht : t.length ≤ 100000) (σ : St) : ACalls Tryz.prog 23 [str t] σ fun r σ' => (∃ id, r = sl id (prsL t).length ((prsL t).map str)) ∧ Keep σ σ' := by
 have hSm := fun c σ => ksmall_spec c σ
 refine acalls 30 [.tmp 2] Tryz.func23 rfl (by decide) rfl rfl (Nat.le_of_ble_eq_true rfl) ?_
 repeat' (first
 |with_reducible first|apply Xa|apply Xb|(refine Xc ?_;intro κ hκ)|(apply hκ.out;clear hκ κ)|apply Xd|apply Xe|apply Xf
 |((with_reducible first|refine Xl ?_ ?_|refine Xk ?_ ?_)<;> intro h hari<;> try exact Xp)
 |((with_reducible refine aapp_go ?_);refine Xt ?_;intro idn σn hOn hKn eobj enobj ever entop)
 |((with_reducible refine aappn_go ?_);refine Xu ?_)
 |refine Xr ?_
 |exact True.intro
 |(apply hκ.out;clear hκ κ))
 refine awp_loop (fun m s σ' => ∃ (i f id : Nat) (d : List Tx), m = t.length - i ∧ i ≤ t.length ∧ f ≤ i ∧ s 0 = str t ∧ s 3 = sl id d.length (d.map str) ∧ s 4 = sc (.int .i64 f) ∧ s 5 = sc (.int .i64 i) ∧ Keep σ σ' ∧ Own σ σ' id d.length ∧ d.length ≤ i ∧ Abs.Hid ((t.take i).foldl prF ([], []) = (d, (t.drop f).take (i - f)))) t.length
  ⟨0, 0, 1, [], by omega, by omega, by omega, rfl, rfl, rfl, rfl, Keep.refl _, Own.nil _ _, by simp, by simp [Abs.Hid]⟩ ?_
 rintro m s σ' ⟨i, f, id, d, rfl, hi, hf, h0, h3, h4, h5, hK, hO, hdl, hF⟩
 by_cases hlt : i < t.length
 ·have hget := List.getElem?_eq_getElem hlt
  generalize t[i] = c at hget
  have hSm := hSm c.toNat
  cases hc : smallB c.toNat with
  | true =>
   rw [hc] at hSm
   have HF : Abs.Hid ((t.take (i + 1)).foldl prF ([], []) = (d, (t.drop f).take (i + 1 - f))) := by
    rw [Abs.Hid, fold_take hget, hF.out, cur_step hf hget, prF_small hc]
   clear hF hc
   repeat' (first
 |with_reducible first|apply Xa|apply Xb|(refine Xc ?_;intro κ hκ)|(apply hκ.out;clear hκ κ)|apply Xd|apply Xe|apply Xf
 |((with_reducible first|refine Xl ?_ ?_|refine Xk ?_ ?_)<;> intro h hari<;> try exact Xp)
 |((with_reducible refine aapp_go ?_);refine Xt ?_;intro idn σn hOn hKn eobj enobj ever entop)
 |((with_reducible refine aappn_go ?_);refine Xu ?_)
 |((with_reducible refine Xh ?_);refine Xi (hSm _) ?_;rintro _ _ ⟨rfl,rfl⟩)
 |refine Xr ?_
 |exact True.intro
 |(apply hκ.out;clear hκ κ))
   refine ⟨t.length - (i + 1), by omega, i + 1, f, id, d, ?_⟩
   ((repeat' with_reducible refine And.intro ?_ ?_)<;> first|exact Xq|exact (HF)|exact Xs)
  | false =>
   rw [hc] at hSm
   by_cases hfi : f < i
   ·have HF : Abs.Hid ((t.take (i + 1)).foldl prF ([], []) = (d ++ [(t.drop f).take (i - f)], (t.drop (i + 1)).take (i + 1 - (i + 1)))) := by
     rw [Abs.Hid, fold_take hget, hF.out, cur_nil, prF_other hc, if_neg]
     intro e
     have := congrArg List.length e
     simp at this
     omega
    have hfb : decide ((f : Int) < (i : Int)) = true := by simp; omega
    clear hF hc
    repeat' (first
 |with_reducible first|apply Xa|apply Xb|(refine Xc ?_;intro κ hκ)|(apply hκ.out;clear hκ κ)|apply Xd|apply Xe|apply Xf
 |((with_reducible first|refine Xl ?_ ?_|refine Xk ?_ ?_)<;> intro h hari<;> try exact Xp)
 |((with_reducible refine aapp_go ?_);refine Xt ?_;intro idn σn hOn hKn eobj enobj ever entop)
 |((with_reducible refine aappn_go ?_);refine Xu ?_)
 |((with_reducible refine Xh ?_);refine Xi (hSm _) ?_;rintro _ _ ⟨rfl,rfl⟩)
 |refine Xr ?_
 |exact True.intro
 |(apply hκ.out;clear hκ κ))
    refine ⟨t.length - (i + 1), by omega, i + 1, i + 1, idn, d ++ [(t.drop f).take (i - f)], ?_⟩
    ((repeat' with_reducible refine And.intro ?_ ?_)<;> first|exact Xq|exact (HF)|exact ((by simpa using hOn))|exact Xs)
   ·have hfe : f = i := by omega
    have HF : Abs.Hid ((t.take (i + 1)).foldl prF ([], []) = (d, (t.drop (i + 1)).take (i + 1 - (i + 1)))) := by
     rw [Abs.Hid, fold_take hget, hF.out, cur_nil, prF_other hc, if_pos (by rw [hfe]; exact cur_nil t i)]
    have hfb : decide ((f : Int) < (i : Int)) = false := by simp; omega
    clear hF hc hfe
    repeat' (first
 |with_reducible first|apply Xa|apply Xb|(refine Xc ?_;intro κ hκ)|(apply hκ.out;clear hκ κ)|apply Xd|apply Xe|apply Xf
 |((with_reducible first|refine Xl ?_ ?_|refine Xk ?_ ?_)<;> intro h hari<;> try exact Xp)
 |((with_reducible refine aapp_go ?_);refine Xt ?_;intro idn σn hOn hKn eobj enobj ever entop)
 |((with_reducible refine aappn_go ?_);refine Xu ?_)
 |((with_reducible refine Xh ?_);refine Xi (hSm _) ?_;rintro _ _ ⟨rfl,rfl⟩)
 |refine Xr ?_
 |exact True.intro
 |(apply hκ.out;clear hκ κ))
    refine ⟨t.length - (i + 1), by omega, i + 1, i + 1, id, d, ?_⟩
    ((repeat' with_reducible refine And.intro ?_ ?_)<;> first|exact Xq|exact (HF)|exact Xs)
 ·have hil : i = t.length := by omega
  have HP : Abs.Hid (prsL t = d) := by
   have := hF.out
   rw [hil, List.take_length] at this
   rw [Abs.Hid, prsL, this]
  clear hF hSm
  repeat' (first
 |with_reducible first|apply Xa|apply Xb|(refine Xc ?_;intro κ hκ)|(apply hκ.out;clear hκ κ)|apply Xd|apply Xe|apply Xf
 |((with_reducible first|refine Xl ?_ ?_|refine Xk ?_ ?_)<;> intro h hari<;> try exact Xp)
 |((with_reducible refine aapp_go ?_);refine Xt ?_;intro idn σn hOn hKn eobj enobj ever entop)
 |((with_reducible refine aappn_go ?_);refine Xu ?_)
 |refine Xr ?_
 |exact True.intro
 |(apply hκ.out;clear hκ κ))
  first | exact ⟨_, rfl, ⟨id, by rw [HP.out]⟩, hK⟩ | exact ⟨_, rfl, id, by rw [HP.out]⟩
/- What is written is read again. Pure. -/
def GNm (p : Tx) : Prop := WName p ∧ p.length ≤ 6
def GTm (t : Tx) : Prop := (∃ b, t = [b] ∧ largeB b.toNat = true) ∨ t = [48] ∨ ∃ b r, t = b :: r ∧ nineB b.toNat = true ∧ (∀ c ∈ r, digitB c.toNat = true) ∧ r.length ≤ 2
structure GA' (a : RAtom) : Prop where
 nm : GNm a.pred
 ne : a.terms ≠ []
 few : a.terms.length ≤ 3
 tm : ∀ t ∈ a.terms, GTm t
structure GIt (x : RItem) : Prop where
 nm : GNm x.head.pred
 out : x.out = true → x.head.nt = false ∧ x.head.terms = [] ∧ x.body = []
 rule : x.out = false → GA' x.head ∧ x.head.nt = false ∧ x.body.length ≤ 5 ∧ ∀ a ∈ x.body, GA' a
theorem pWhile_of (p : Int → Bool) : ∀ (n : Nat) (t r : Tx), (∀ b ∈ t, p b.toNat = true) → t.length ≤ n → (∀ b q, r = b :: q → p b.toNat = false) → pWhile p n (t ++ r) = (t, r)
 | n, [], r, _, _, hr => by
  cases n with
  | zero => rfl
  | succ n =>
   cases r with
   | nil => rfl
   | cons b q =>
    show pWhile p (n + 1) (b :: q) = _
    unfold pWhile
    rw [if_neg (by simp [hr b q rfl])]
 | 0, b :: t, r, _, hl, _ => by simp at hl
 | n + 1, b :: t, r, ht, hl, hr => by
  show pWhile p (n + 1) (b :: (t ++ r)) = _
  unfold pWhile
  rw [if_pos (ht b (by simp)), pWhile_of p n t r (fun c hc => ht c (by simp [hc])) (by simpa using hl) hr]
theorem pWhile_len (p : Int → Bool) : ∀ (n : Nat) (s : Tx), (pWhile p n s).1.length ≤ n
 | 0, s => by simp [pWhile]
 | n + 1, [] => by simp [pWhile]
 | n + 1, b :: r => by
  unfold pWhile
  split
  ·have := pWhile_len p n r; simp; omega
  ·simp
theorem pName_of {p r : Tx} (h : GNm p) (hr : ∀ b q, r = b :: q → smallB b.toNat = false) : pName (p ++ r) = .got p r := by
 unfold pName
 rw [pWhile_of smallB 6 p r h.1.2 h.2 hr]
 rw [if_neg h.1.1]
theorem pName_gn {s r p : Tx} (h : pName s = .got p r) : GNm p := by
 refine ⟨(pName_took h).2, ?_⟩
 unfold pName at h
 split at h
 ·cases h
 ·cases h; exact pWhile_len _ _ _
theorem pTerm_of {t r : Tx} (h : GTm t) (hr : ∀ b q, r = b :: q → digitB b.toNat = false) : pTerm (t ++ r) = .got t r := by
 rcases h with ⟨b, rfl, hb⟩ | rfl | ⟨b, q, rfl, hb, hq, hl⟩
 ·show pTerm (b :: r) = _
  unfold pTerm; dsimp only
  rw [if_pos hb]
 ·show pTerm (48 :: r) = _
  unfold pTerm; dsimp only
  rw [if_neg (by decide), if_pos (by decide)]
 ·show pTerm (b :: (q ++ r)) = _
  unfold pTerm; dsimp only
  rw [if_neg, if_neg, if_pos hb, pWhile_of digitB 2 q r hq hl hr]
  ·intro e; simp only [nineB, Bool.and_eq_true, decide_eq_true_eq] at hb; simp at e; omega
  ·intro e; rw [large_not_nine e] at hb; cases hb
theorem pTerm_gt {s r t : Tx} (h : pTerm s = .got t r) : GTm t := by
 cases s with
 | nil => cases h
 | cons b q =>
  unfold pTerm at h; dsimp only at h
  split at h
  ·rename_i hl; cases h; exact .inl ⟨b, rfl, hl⟩
  split at h
  ·rename_i h0
   cases h
   have : b = 48 := byte_eq 48 h0
   rw [this]; exact .inr (.inl rfl)
  split at h
  ·rename_i h9; cases h
   exact .inr (.inr ⟨b, _, rfl, h9, (pWhile_took digitB 2 q).2, pWhile_len _ _ _⟩)
  ·cases h
theorem got_bnd {α β : Type} (x : α) (r : Tx) (f : α → Tx → Rd β) : (Rd.got x r).bnd f = f x r := rfl
theorem pByte_of {c : UInt8} {r : Tx} : pByte c.toNat (c :: r) = .got () r := by unfold pByte; dsimp only; rw [if_pos (by simp)]
theorem uMore_cons (t : Tx) (ts : List Tx) : uMore (t :: ts) = 44 :: (t ++ uMore ts) := by simp [uMore]
theorem pMore_of {α : Type} {f : Tx → Rd α} {u : α → Tx} {c : UInt8} (hc : c ≠ 44) {P : α → Prop} (hf : ∀ x r, P x → (∀ b q, r = b :: q → b = 44 ∨ b = c) → f (u x ++ r) = .got x r) : ∀ (n : Nat) (xs : List α) (r : Tx), (∀ x ∈ xs, P x) → xs.length ≤ n → pMore f n (uMore (xs.map u) ++ c :: r) = .got xs (c :: r)
 | 0, [], r, _, _ => rfl
 | n + 1, [], r, _, _ => by
  show pMore f (n + 1) (c :: r) = _
  unfold pMore
  rw [if_neg (by
   intro h
   exact hc (byte_eq 44 h))]
 | 0, x :: xs, r, _, hl => by simp at hl
 | n + 1, x :: xs, r, hP, hl => by
  rw [List.map_cons, uMore_cons]
  show pMore f (n + 1) (44 :: ((u x ++ uMore (xs.map u)) ++ c :: r)) = _
  unfold pMore
  rw [if_pos (by decide), List.append_assoc, hf x _ (hP x (by simp)) ?_]
  ·rw [got_bnd, pMore_of hc hf n xs r (fun y hy => hP y (by simp [hy])) (by simpa using hl)]
   rfl
  ·intro b q e
   cases xs with
   | nil => simp [uMore] at e; exact .inr e.1.symm
   | cons y ys => rw [List.map_cons, uMore_cons] at e; simp at e; exact .inl e.1.symm
theorem nd {b : UInt8} (h : b = 44 ∨ b = 41) : digitB b.toNat = false := by rcases h with rfl | rfl <;> decide
theorem pAtom_of {a : RAtom} (h : GA' a) (r : Tx) : pAtom a.nt (uAtom a ++ r) = .got a r := by
 unfold pAtom uAtom
 rw [List.append_assoc, pName_of h.nm (fun b q e => by simp at e; rw [← e.1]; decide)]
 rw [got_bnd, List.cons_append]
 rw [show (40 : Int) = ((40 : UInt8).toNat : Int) from rfl, pByte_of]
 rw [got_bnd]
 obtain ⟨t, ts, e⟩ := List.exists_cons_of_ne_nil h.ne
 have htm := h.tm
 have hfew := h.few
 rw [e] at htm hfew
 rw [e, uList]
 unfold pArgs
 have e2 : ((t ++ uMore ts ++ [41]) ++ r : Tx) = t ++ (uMore (ts.map id) ++ 41 :: r) := by simp
 rw [e2, pTerm_of (htm t (by simp)) ?_]
 ·rw [got_bnd, pMore_of (u := id) (c := 41) (by decide) (P := GTm) (fun x r hx hr => pTerm_of hx fun b q e => nd (hr b q e)) 2 ts r (fun y hy => htm y (by simp [hy])) (by simpa using hfew)]
  rw [got_bnd, show (41 : Int) = ((41 : UInt8).toNat : Int) from rfl, pByte_of]
  rw [got_bnd, ← e]
 ·intro b q eb
  cases ts with
  | nil => simp [uMore] at eb; exact nd (.inr eb.1.symm)
  | cons y ys => rw [List.map_cons, uMore_cons] at eb; simp at eb; exact nd (.inl eb.1.symm)
theorem pLit_of {a : RAtom} (h : GA' a) (r : Tx) : pLit (uLit a ++ r) = .got a r := by
 have hp := pAtom_of h r
 cases hn : a.nt with
 | true =>
  rw [hn] at hp
  rw [show uLit a ++ r = 33 :: (uAtom a ++ r) by simp [uLit, hn]]
  unfold pLit
  dsimp only
  rw [if_pos (by decide)]; exact hp
 | false =>
  rw [hn] at hp
  rw [show uLit a ++ r = uAtom a ++ r by simp [uLit, hn]]
  obtain ⟨b, q, e, h1, h2⟩ := head_small h.nm.1
  have e2 : uAtom a ++ r = b :: (q ++ 40 :: (uList a.terms ++ [41]) ++ r) := by unfold uAtom; rw [e]; simp
  rw [e2] at hp ⊢
  unfold pLit
  dsimp only
  rw [if_neg (by simp; omega)]; exact hp
theorem pItem_of {x : RItem} (h : GIt x) (r : Tx) : pItem (uItem x ++ 46 :: r) = .got x r := by
 cases ho : x.out with
 | true =>
  obtain ⟨h1, h2, h3⟩ := h.out ho
  rw [uItem, if_pos ho]
  show pItem (63 :: (x.head.pred ++ 46 :: r)) = _
  unfold pItem
  dsimp only
  rw [if_pos (by decide)]
  unfold pOut
  rw [pName_of h.nm (fun b q e => by simp at e; rw [← e.1]; decide)]
  rw [got_bnd, show (46 : Int) = ((46 : UInt8).toNat : Int) from rfl, pByte_of]
  rw [got_bnd]
  obtain ⟨o, ⟨n, p, ts⟩, bd⟩ := x
  simp only at h1 h2 h3 ho
  subst h1; subst h2; subst h3; subst ho
  rfl
 | false =>
  obtain ⟨h1, h2, h3, h4⟩ := h.rule ho
  have hR : pItem (uItem x ++ 46 :: r) = pRule (uItem x ++ 46 :: r) := by
   obtain ⟨b, q, e, g1, g2⟩ := head_small h.nm.1
   have e2 : uItem x ++ 46 :: r = b :: (q ++ 40 :: (uList x.head.terms ++ [41]) ++ (if x.body = [] then [] else 58 :: 45 :: uList (x.body.map uLit)) ++ 46 :: r) := by
    unfold uItem uRule uAtom; rw [if_neg (by simp [ho]), e]; simp
   rw [e2]
   unfold pItem
   dsimp only
   rw [if_neg (by simp; omega)]
  rw [hR, uItem, if_neg (by simp [ho]), uRule, List.append_assoc]
  unfold pRule
  have hp := pAtom_of h1 ((if x.body = [] then [] else 58 :: 45 :: uList (x.body.map uLit)) ++ 46 :: r)
  rw [h2] at hp
  rw [hp, got_bnd]
  by_cases hb : x.body = []
  ·rw [if_pos hb]
   show pTail x.head (46 :: r) = _
   unfold pTail
   dsimp only
   rw [if_pos (by decide)]
   rw [← hb, ← ho]
  ·rw [if_neg hb]
   obtain ⟨l, ls, e⟩ := List.exists_cons_of_ne_nil hb
   rw [e] at h3 h4
   rw [e, List.map_cons, uList]
   have e2 : (58 :: 45 :: (uLit l ++ uMore (ls.map uLit)) ++ 46 :: r : Tx) = 58 :: 45 :: (uLit l ++ (uMore (ls.map uLit) ++ 46 :: r)) := by simp
   rw [e2]
   unfold pTail
   dsimp only
   rw [if_neg (by decide)]
   rw [show (58 : Int) = ((58 : UInt8).toNat : Int) from rfl, pByte_of]
   rw [got_bnd, show (45 : Int) = ((45 : UInt8).toNat : Int) from rfl, pByte_of]
   rw [got_bnd]
   unfold pBody
   rw [pLit_of (h4 l (by simp)), got_bnd, pMore_of (u := uLit) (c := 46) (by decide) (P := GA') (fun y q hy _ => pLit_of hy q) 4 ls r (fun y hy => h4 y (by simp [hy])) (by simpa using h3)]
   rw [got_bnd, show (46 : Int) = ((46 : UInt8).toNat : Int) from rfl, pByte_of]
   rw [got_bnd, ← e, ← ho]
theorem pItems_of : ∀ (n : Nat) (l : List RItem), (∀ x ∈ l, GIt x) → l.length ≤ n → pItems n (uItems l) = .got l []
 | n, [], _, _ => by cases n <;> rfl
 | 0, x :: l, _, hl => by simp at hl
 | n + 1, x :: l, h, hl => by
  have e : uItems (x :: l) = uItem x ++ 46 :: uItems l := by simp [uItems]
  have hne : uItem x ++ 46 :: uItems l ≠ [] := by simp
  obtain ⟨b, q, e2⟩ := List.exists_cons_of_ne_nil hne
  rw [e]
  have hp := pItem_of (h x (by simp)) (uItems l)
  rw [e2] at hp ⊢
  show ((pItem (b :: q)).bnd fun x r => (pItems n r).bnd fun xs r => .got (x :: xs) r) = _
  rw [hp, got_bnd, pItems_of n l (fun y hy => h y (by simp [hy])) (by simpa using hl)]
  rfl
/-! ### What was read is so -/
theorem pMore_ga {α : Type} {f : Tx → Rd α} {P : α → Prop} (hf : ∀ s x r, f s = .got x r → P x) {n : Nat} {s : Tx} {xs : List α} {r : Tx} (h : pMore f n s = .got xs r) : ∀ x ∈ xs, P x := pMore_all hf n s xs r h
theorem pAtom_ga {nt : Bool} {s r : Tx} {a : RAtom} (h : pAtom nt s = .got a r) : GA' a := by
 have hw := (pAtom_took h).2.1
 have ht := pAtom_all (T := GTm) (fun _ _ _ h => pTerm_gt h) h
 refine ⟨?_, hw.2.1, hw.2.2.1, ht⟩
 unfold pAtom at h
 obtain ⟨p, q, h1, h⟩ := bnd_got h
 obtain ⟨u, q2, h2, h⟩ := bnd_got h
 unfold pArgs at h
 obtain ⟨t, q3, h3, h⟩ := bnd_got h
 obtain ⟨ts, q4, h4, h⟩ := bnd_got h
 obtain ⟨u2, q5, h5, h⟩ := bnd_got h
 cases h
 exact pName_gn h1
theorem pLit_ga {s r : Tx} {a : RAtom} (h : pLit s = .got a r) : GA' a := by
 cases s with
 | nil => cases h
 | cons b q =>
  unfold pLit at h
  dsimp only at h
  split at h
  ·exact pAtom_ga h
  ·exact pAtom_ga h
theorem pItem_gi {s r : Tx} {x : RItem} (h : pItem s = .got x r) : GIt x := by
 have hw := (pItem_took h).2
 cases s with
 | nil => cases h
 | cons b q =>
  unfold pItem at h
  dsimp only at h
  split at h
  ·unfold pOut at h
   obtain ⟨p, q, h1, h⟩ := bnd_got h
   obtain ⟨u, q2, h2, h⟩ := bnd_got h
   cases h
   exact ⟨pName_gn h1, hw.2.1, (fun e => by cases e)⟩
  ·unfold pRule at h
   obtain ⟨hd, q, h1, h⟩ := bnd_got h
   have hg := pAtom_ga h1
   have key : x.head = hd ∧ x.out = false ∧ ∀ a ∈ x.body, GA' a := by
    cases q with
    | nil => cases h
    | cons c q =>
     unfold pTail at h
     dsimp only at h
     split at h
     ·cases h; exact ⟨rfl, rfl, by simp⟩
     ·obtain ⟨_, q2, _, h⟩ := bnd_got h
      obtain ⟨_, q3, _, h⟩ := bnd_got h
      unfold pBody at h
      obtain ⟨l, q4, h4, h⟩ := bnd_got h
      obtain ⟨ls, q5, h5, h⟩ := bnd_got h
      obtain ⟨_, q6, _, h⟩ := bnd_got h
      cases h
      refine ⟨rfl, rfl, fun a ha => ?_⟩
      rcases List.mem_cons.1 ha with rfl | ha
      ·exact pLit_ga h4
      ·exact pMore_ga (fun _ _ _ h => pLit_ga h) h5 a ha
   obtain ⟨e1, e2, e3⟩ := key
   refine ⟨by rw [e1]; exact hg.nm, hw.2.1, fun ho => ⟨by rw [e1]; exact hg, (hw.2.2 ho).2.1, (hw.2.2 ho).2.2.1, e3⟩⟩
theorem pItems_gi : ∀ (n : Nat) (s : Tx) (l : List RItem) (r : Tx), pItems n s = .got l r → ∀ x ∈ l, GIt x
 | n, [], l, r, h => by
  cases n <;> (cases h; intro x hx; cases hx)
 | 0, b :: s, l, r, h => by cases h
 | n + 1, b :: s, l, r, h => by
  have h' : ((pItem (b :: s)).bnd fun x r => (pItems n r).bnd fun xs r => .got (x :: xs) r) = .got l r := h
  obtain ⟨x, q, h1, h2⟩ := bnd_got h'
  obtain ⟨xs, q2, h3, h4⟩ := bnd_got h2
  cases h4
  intro y hy
  rcases List.mem_cons.1 hy with rfl | hy
  ·exact pItem_gi h1
  ·exact pItems_gi n _ _ _ h3 y hy
end Go.Proofs.YtmoeoppbmhfbpaaGreatDoorB
