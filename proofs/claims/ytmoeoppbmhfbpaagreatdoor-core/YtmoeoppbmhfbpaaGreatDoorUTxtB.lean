import Derived.Test.YtmoeoppbmhfbpaaGreatDoorUAgrB
import Derived.Test.YtmoeoppbmhfbpaaGreatDoorUSpaF
/- Plain texts, walked: pieces, among, count, atoms. -/
namespace Go.Proofs.YtmoeoppbmhfbpaaGreatDoorU
open Go.Abs
set_option linter.unusedSimpArgs false
set_option linter.unusedVariables false
set_option maxRecDepth 100000
theorem byte_is {b c : UInt8} : ((b.toNat : Int) == (c.toNat : Int)) = decide (b = c) := by
 by_cases h : b = c
 ·subst h; simp
 ·rw [decide_eq_false h]
  have : b.toNat ≠ c.toNat := fun e => h (UInt8.toNat_inj.1 e)
  simpa using (by omega : ¬ (b.toNat : Int) = c.toNat)
theorem fold_take {α : Type} {f : α → UInt8 → α} {a : α} {t : Tx} {i : Nat} {c : UInt8} (h : t[i]? = some c) : (t.take (i + 1)).foldl f a = f ((t.take i).foldl f a) c := by
 rw [List.take_add_one, h, Option.toList_some, List.foldl_append]; rfl
theorem cur_step {t : Tx} {f i : Nat} {c : UInt8} (hf : f ≤ i) (h : t[i]? = some c) : (t.drop f).take (i + 1 - f) = (t.drop f).take (i - f) ++ [c] := by
 rw [show i + 1 - f = (i - f) + 1 by omega, List.take_add_one, List.getElem?_drop, show f + (i - f) = i by omega, h]
 rfl
theorem cur_nil (t : Tx) (i : Nat) : (t.drop i).take (i - i) = [] := by simp
set_option maxHeartbeats 8000000 in
theorem kpieces_spec (t : Tx) (ht : t.length ≤ 100000) (σ : St) : ACalls Tryz.prog 22 [str t] σ fun r σ' => (∃ id, r = sl id (pcsL t).length ((pcsL t).map str)) ∧ Keep σ σ' := by
 refine acalls 37 [.tmp 2] Tryz.func22 rfl (by decide) rfl rfl (Nat.le_of_ble_eq_true rfl) ?_
 repeat' (first
 |with_reducible first|apply Xa|apply Xb|(refine Xc ?_;intro κ hκ)|(apply hκ.out;clear hκ κ)|apply Xd|apply Xe|apply Xf
 |((with_reducible first|refine Xl ?_ ?_|refine Xk ?_ ?_)<;> intro h hari<;> try exact Xp)
 |((with_reducible refine aapp_go ?_);refine Xt ?_;intro idn σn hOn hKn eobj enobj ever entop)
 |((with_reducible refine aappn_go ?_);refine Xu ?_)
 |refine Xr ?_
 |exact True.intro
 |(apply hκ.out;clear hκ κ))
 refine awp_loop (fun m s σ' => ∃ (i f id : Nat) (d : List Tx), m = t.length - i ∧ i ≤ t.length ∧ f ≤ i ∧ s 0 = str t ∧ s 3 = sl id d.length (d.map str) ∧ s 4 = sc (.int .i64 f) ∧ s 5 = sc (.int .i64 i) ∧ Keep σ σ' ∧ Own σ σ' id d.length ∧ d.length ≤ i ∧ Abs.Hid ((t.take i).foldl pcF ([], []) = (d, (t.drop f).take (i - f)))) t.length
  ⟨0, 0, 1, [], by omega, by omega, by omega, rfl, rfl, rfl, rfl, Keep.refl _, Own.nil _ _, by simp, by simp [Abs.Hid]⟩ ?_
 rintro m s σ' ⟨i, f, id, d, rfl, hi, hf, h0, h3, h4, h5, hK, hO, hdl, hF⟩
 by_cases hlt : i < t.length
 ·have hget := List.getElem?_eq_getElem hlt
  generalize t[i] = c at hget
  by_cases hc : c = 46
  ·have hb : ((c.toNat : Int) == 46) = true := by rw [hc]; rfl
   have HF : Abs.Hid ((t.take (i + 1)).foldl pcF ([], []) = (d ++ [(t.drop f).take (i + 1 - f)], (t.drop (i + 1)).take (i + 1 - (i + 1)))) := by
    rw [Abs.Hid, fold_take hget, hF.out, cur_step hf hget, cur_nil, hc]; rfl
   clear hF hc
   repeat' (first
 |with_reducible first|apply Xa|apply Xb|(refine Xc ?_;intro κ hκ)|(apply hκ.out;clear hκ κ)|apply Xd|apply Xe|apply Xf
 |((with_reducible first|refine Xl ?_ ?_|refine Xk ?_ ?_)<;> intro h hari<;> try exact Xp)
 |((with_reducible refine aapp_go ?_);refine Xt ?_;intro idn σn hOn hKn eobj enobj ever entop)
 |((with_reducible refine aappn_go ?_);refine Xu ?_)
 |refine Xr ?_
 |exact True.intro
 |(apply hκ.out;clear hκ κ))
   refine ⟨t.length - (i + 1), by omega, i + 1, i + 1, idn, d ++ [(t.drop f).take (i + 1 - f)], ?_⟩
   ((repeat' with_reducible refine And.intro ?_ ?_)<;> first|exact Xq|exact (HF)|exact ((by simpa using hOn))|exact Xs)
  ·have hb : ((c.toNat : Int) == 46) = false := by rw [show (46 : Int) = ((46 : UInt8).toNat : Int) from rfl, byte_is]; simpa using hc
   have HF : Abs.Hid ((t.take (i + 1)).foldl pcF ([], []) = (d, (t.drop f).take (i + 1 - f))) := by
    rw [Abs.Hid, fold_take hget, hF.out, cur_step hf hget, pcF, if_neg hc]
   clear hF hc
   repeat' (first
 |with_reducible first|apply Xa|apply Xb|(refine Xc ?_;intro κ hκ)|(apply hκ.out;clear hκ κ)|apply Xd|apply Xe|apply Xf
 |((with_reducible first|refine Xl ?_ ?_|refine Xk ?_ ?_)<;> intro h hari<;> try exact Xp)
 |((with_reducible refine aapp_go ?_);refine Xt ?_;intro idn σn hOn hKn eobj enobj ever entop)
 |((with_reducible refine aappn_go ?_);refine Xu ?_)
 |refine Xr ?_
 |exact True.intro
 |(apply hκ.out;clear hκ κ))
   refine ⟨t.length - (i + 1), by omega, i + 1, f, id, d, ?_⟩
   ((repeat' with_reducible refine And.intro ?_ ?_)<;> first|exact Xq|exact (HF)|exact Xs)
 ·have hil : i = t.length := by omega
  subst hil
  have hF' := hF.out
  rw [List.take_length, List.take_of_length_le (by simp)] at hF'
  by_cases hfe : f < t.length
  ·have HP : Abs.Hid (pcsL t = d ++ [t.drop f]) := by
    rw [Abs.Hid, pcsL, hF', if_neg (by intro e; have := congrArg List.length e; simp at this; omega)]
   clear hF hF'
   repeat' (first
 |with_reducible first|apply Xa|apply Xb|(refine Xc ?_;intro κ hκ)|(apply hκ.out;clear hκ κ)|apply Xd|apply Xe|apply Xf
 |((with_reducible first|refine Xl ?_ ?_|refine Xk ?_ ?_)<;> intro h hari<;> try exact Xp)
 |((with_reducible refine aapp_go ?_);refine Xt ?_;intro idn σn hOn hKn eobj enobj ever entop)
 |((with_reducible refine aappn_go ?_);refine Xu ?_)
 |refine Xr ?_
 |exact True.intro
 |(apply hκ.out;clear hκ κ))
   first | refine ⟨_, rfl, ⟨idn, ?_⟩, hKn⟩ | refine ⟨_, rfl, idn, ?_⟩
   rw [HP.out]
   simp
   try rw [List.take_of_length_le (by simp)]
  ·have HP : Abs.Hid (pcsL t = d) := by
    rw [Abs.Hid, pcsL, hF', if_pos (by apply List.eq_nil_of_length_eq_zero; simp; omega)]
   clear hF hF'
   repeat' (first
 |with_reducible first|apply Xa|apply Xb|(refine Xc ?_;intro κ hκ)|(apply hκ.out;clear hκ κ)|apply Xd|apply Xe|apply Xf
 |((with_reducible first|refine Xl ?_ ?_|refine Xk ?_ ?_)<;> intro h hari<;> try exact Xp)
 |((with_reducible refine aapp_go ?_);refine Xt ?_;intro idn σn hOn hKn eobj enobj ever entop)
 |((with_reducible refine aappn_go ?_);refine Xu ?_)
 |refine Xr ?_
 |exact True.intro
 |(apply hκ.out;clear hκ κ))
   first | exact ⟨_, rfl, ⟨id, by rw [HP.out]⟩, hK⟩ | exact ⟨_, rfl, id, by rw [HP.out]⟩
set_option maxHeartbeats 4000000 in
theorem kcount_spec (t : Tx) (c : UInt8) (ht : t.length ≤ 100000) (σ : St) : ACalls Tryz.prog 34 [str t, sc (.int .u8 c.toNat)] σ fun r σ' => r = sc (.int .i64 (t.count c : Nat)) ∧ σ' = σ := by
 refine acalls 21 [.tmp 4] Tryz.func34 rfl (by decide) rfl rfl (Nat.le_of_ble_eq_true rfl) ?_
 repeat' (first
 |with_reducible first|apply Xa|apply Xb|(refine Xc ?_;intro κ hκ)|(apply hκ.out;clear hκ κ)|apply Xd|apply Xe|apply Xf
 |((with_reducible first|refine Xl ?_ ?_|refine Xk ?_ ?_)<;> intro h hari<;> try exact Xp)
 |refine Xr ?_
 |exact True.intro
 |(apply hκ.out;clear hκ κ))
 refine awp_loop (fun m s σ' => ∃ i n : Nat, m = t.length - i ∧ i ≤ t.length ∧ n ≤ i ∧ s 0 = str t ∧ s 1 = sc (.int .u8 c.toNat) ∧ s 5 = sc (.int .i64 n) ∧ s 6 = sc (.int .i64 i) ∧ σ' = σ ∧ Abs.Hid ((t.take i).count c = n)) t.length
  ⟨0, 0, by omega, by omega, by omega, rfl, rfl, rfl, rfl, rfl, by simp [Abs.Hid]⟩ ?_
 rintro m s σ' ⟨i, n, rfl, hi, hn, h0, h1, h5, h6, hσ, hC⟩
 by_cases hlt : i < t.length
 ·have hget := List.getElem?_eq_getElem hlt
  generalize t[i] = b at hget
  have hstep : (t.take (i + 1)).count c = (t.take i).count c + if b = c then 1 else 0 := by
   rw [List.take_add_one, hget, Option.toList_some, List.count_append, List.count_singleton]
   simp
  by_cases hc : b = c
  ·have hb : ((b.toNat : Int) == (c.toNat : Int)) = true := by rw [hc]; simp
   have HC : Abs.Hid ((t.take (i + 1)).count c = n + 1) := by rw [Abs.Hid, hstep, if_pos hc, hC.out]
   clear hC hc hstep
   repeat' (first
 |with_reducible first|apply Xa|apply Xb|(refine Xc ?_;intro κ hκ)|(apply hκ.out;clear hκ κ)|apply Xd|apply Xe|apply Xf
 |((with_reducible first|refine Xl ?_ ?_|refine Xk ?_ ?_)<;> intro h hari<;> try exact Xp)
 |refine Xr ?_
 |exact True.intro
 |(apply hκ.out;clear hκ κ))
   refine ⟨t.length - (i + 1), by omega, i + 1, n + 1, ?_⟩
   ((repeat' with_reducible refine And.intro ?_ ?_)<;> first|exact Xq|exact (HC)|exact Xs)
  ·have hb : ((b.toNat : Int) == (c.toNat : Int)) = false := by rw [byte_is]; simpa using hc
   have HC : Abs.Hid ((t.take (i + 1)).count c = n) := by rw [Abs.Hid, hstep, if_neg hc, hC.out]; rfl
   clear hC hc hstep
   repeat' (first
 |with_reducible first|apply Xa|apply Xb|(refine Xc ?_;intro κ hκ)|(apply hκ.out;clear hκ κ)|apply Xd|apply Xe|apply Xf
 |((with_reducible first|refine Xl ?_ ?_|refine Xk ?_ ?_)<;> intro h hari<;> try exact Xp)
 |refine Xr ?_
 |exact True.intro
 |(apply hκ.out;clear hκ κ))
   refine ⟨t.length - (i + 1), by omega, i + 1, n, ?_⟩
   ((repeat' with_reducible refine And.intro ?_ ?_)<;> first|exact Xq|exact (HC)|exact Xs)
 ·have hil : i = t.length := by omega
  have HC : Abs.Hid (t.count c = n) := by
   rw [Abs.Hid]
   have := hC.out
   rw [hil, List.take_length] at this
   exact this
  clear hC
  repeat' (first
 |with_reducible first|apply Xa|apply Xb|(refine Xc ?_;intro κ hκ)|(apply hκ.out;clear hκ κ)|apply Xd|apply Xe|apply Xf
 |((with_reducible first|refine Xl ?_ ?_|refine Xk ?_ ?_)<;> intro h hari<;> try exact Xp)
 |refine Xr ?_
 |exact True.intro
 |(apply hκ.out;clear hκ κ))
  first | exact ⟨_, rfl, by rw [HC.out], by assumption⟩ | exact ⟨_, rfl, by rw [HC.out]⟩
set_option maxHeartbeats 16000000 in
theorem katoms_spec (t : Tx) (ht : t.length ≤ 100000) (σ : St) : ACalls Tryz.prog 31 [str t] σ fun r σ' => (∃ id, r = sl id (atsL t).length ((atsL t).map str)) ∧ Keep σ σ' := by
 have hCn := fun (f i : Nat) (hi : i ≤ t.length) (σ : St) => kcount_spec ((t.drop f).take (i - f)) 40 (by simp; omega) σ
 refine acalls 47 [.tmp 2] Tryz.func31 rfl (by decide) rfl rfl (Nat.le_of_ble_eq_true rfl) ?_
 repeat' (first
 |with_reducible first|apply Xa|apply Xb|(refine Xc ?_;intro κ hκ)|(apply hκ.out;clear hκ κ)|apply Xd|apply Xe|apply Xf
 |((with_reducible first|refine Xl ?_ ?_|refine Xk ?_ ?_)<;> intro h hari<;> try exact Xp)
 |((with_reducible refine aapp_go ?_);refine Xt ?_;intro idn σn hOn hKn eobj enobj ever entop)
 |((with_reducible refine aappn_go ?_);refine Xu ?_)
 |refine Xr ?_
 |exact True.intro
 |(apply hκ.out;clear hκ κ))
 refine awp_loop (fun m s σ' => ∃ (i f id : Nat) (d : List Tx), m = t.length - i ∧ i ≤ t.length ∧ f ≤ i ∧ s 0 = str t ∧ s 3 = sl id d.length (d.map str) ∧ s 4 = sc (.int .i64 f) ∧ s 5 = sc (.int .i64 i) ∧ Keep σ σ' ∧ Own σ σ' id d.length ∧ d.length ≤ i ∧ Abs.Hid ((t.take i).foldl atF ([], []) = (d, (t.drop f).take (i - f)))) t.length
  ⟨0, 0, 1, [], by omega, by omega, by omega, rfl, rfl, rfl, rfl, Keep.refl _, Own.nil _ _, by simp, by simp [Abs.Hid]⟩ ?_
 rintro m s σ' ⟨i, f, id, d, rfl, hi, hf, h0, h3, h4, h5, hK, hO, hdl, hF⟩
 by_cases hlt : i < t.length
 ·have hget := List.getElem?_eq_getElem hlt
  generalize t[i] = c at hget
  by_cases hc : c = 41
  ·have hb : ((c.toNat : Int) == 41) = true := by rw [hc]; rfl
   have hb2 : ((c.toNat : Int) == 45) = false := by rw [hc]; rfl
   have hb3 : ((c.toNat : Int) == 44) = false := by rw [hc]; rfl
   have HF : Abs.Hid ((t.take (i + 1)).foldl atF ([], []) = (d ++ [(t.drop f).take (i + 1 - f)], (t.drop (i + 1)).take (i + 1 - (i + 1)))) := by
    rw [Abs.Hid, fold_take hget, hF.out, cur_step hf hget, cur_nil, hc]; rfl
   clear hF hc hCn
   repeat' (first
 |with_reducible first|apply Xa|apply Xb|(refine Xc ?_;intro κ hκ)|(apply hκ.out;clear hκ κ)|apply Xd|apply Xe|apply Xf
 |((with_reducible first|refine Xl ?_ ?_|refine Xk ?_ ?_)<;> intro h hari<;> try exact Xp)
 |((with_reducible refine aapp_go ?_);refine Xt ?_;intro idn σn hOn hKn eobj enobj ever entop)
 |((with_reducible refine aappn_go ?_);refine Xu ?_)
 |refine Xr ?_
 |exact True.intro
 |(apply hκ.out;clear hκ κ))
   refine ⟨t.length - (i + 1), by omega, i + 1, i + 1, idn, d ++ [(t.drop f).take (i + 1 - f)], ?_⟩
   ((repeat' with_reducible refine And.intro ?_ ?_)<;> first|exact Xq|exact (HF)|exact ((by simpa using hOn))|exact Xs)
  ·have hb : ((c.toNat : Int) == 41) = false := by rw [show (41 : Int) = ((41 : UInt8).toNat : Int) from rfl, byte_is]; simpa using hc
   have hCn := hCn f i hi
   by_cases hz : (c = 45 ∨ c = 44) ∧ ((t.drop f).take (i - f)).count 40 = 0
   ·have HF : Abs.Hid ((t.take (i + 1)).foldl atF ([], []) = (d, (t.drop (i + 1)).take (i + 1 - (i + 1)))) := by
     rw [Abs.Hid, fold_take hget, hF.out, cur_nil, atF, if_neg hc, if_pos hz]
    obtain ⟨hz1, hz2⟩ := hz
    rw [hz2] at hCn
    clear hF hc hz2
    rcases hz1 with rfl | rfl
    ·have e1 : (((45 : UInt8).toNat : Int) == 45) = true := rfl
     have e2 : (((45 : UInt8).toNat : Int) == 44) = false := rfl
     repeat' (first
 |with_reducible first|apply Xa|apply Xb|(refine Xc ?_;intro κ hκ)|(apply hκ.out;clear hκ κ)|apply Xd|apply Xe|apply Xf
 |((with_reducible first|refine Xl ?_ ?_|refine Xk ?_ ?_)<;> intro h hari<;> try exact Xp)
 |((with_reducible refine aapp_go ?_);refine Xt ?_;intro idn σn hOn hKn eobj enobj ever entop)
 |((with_reducible refine aappn_go ?_);refine Xu ?_)
 |((with_reducible refine Xh ?_);refine Xi (hCn _) ?_;rintro _ _ ⟨rfl,rfl⟩)
 |refine Xr ?_
 |exact True.intro
 |(apply hκ.out;clear hκ κ))
     refine ⟨t.length - (i + 1), by omega, i + 1, i + 1, id, d, ?_⟩
     ((repeat' with_reducible refine And.intro ?_ ?_)<;> first|exact Xq|exact (HF)|exact Xs)
    ·have e1 : (((44 : UInt8).toNat : Int) == 45) = false := rfl
     have e2 : (((44 : UInt8).toNat : Int) == 44) = true := rfl
     repeat' (first
 |with_reducible first|apply Xa|apply Xb|(refine Xc ?_;intro κ hκ)|(apply hκ.out;clear hκ κ)|apply Xd|apply Xe|apply Xf
 |((with_reducible first|refine Xl ?_ ?_|refine Xk ?_ ?_)<;> intro h hari<;> try exact Xp)
 |((with_reducible refine aapp_go ?_);refine Xt ?_;intro idn σn hOn hKn eobj enobj ever entop)
 |((with_reducible refine aappn_go ?_);refine Xu ?_)
 |((with_reducible refine Xh ?_);refine Xi (hCn _) ?_;rintro _ _ ⟨rfl,rfl⟩)
 |refine Xr ?_
 |exact True.intro
 |(apply hκ.out;clear hκ κ))
     refine ⟨t.length - (i + 1), by omega, i + 1, i + 1, id, d, ?_⟩
     ((repeat' with_reducible refine And.intro ?_ ?_)<;> first|exact Xq|exact (HF)|exact Xs)
   ·have HF : Abs.Hid ((t.take (i + 1)).foldl atF ([], []) = (d, (t.drop f).take (i + 1 - f))) := by
     rw [Abs.Hid, fold_take hget, hF.out, cur_step hf hget, atF, if_neg hc, if_neg hz]
    clear hF hc
    by_cases h45 : c = 45
    ·subst h45
     have hz2 : ((((t.drop f).take (i - f)).count 40 : Nat) : Int) ≠ 0 := fun e => hz ⟨.inl rfl, by omega⟩
     have hz3 : (((((t.drop f).take (i - f)).count 40 : Nat) : Int) == 0) = false := by simpa using hz2
     have e1 : (((45 : UInt8).toNat : Int) == 45) = true := rfl
     clear hz2 hz
     generalize ((t.drop f).take (i - f)).count 40 = cn at hCn hz3
     repeat' (first
 |with_reducible first|apply Xa|apply Xb|(refine Xc ?_;intro κ hκ)|(apply hκ.out;clear hκ κ)|apply Xd|apply Xe|apply Xf
 |((with_reducible first|refine Xl ?_ ?_|refine Xk ?_ ?_)<;> intro h hari<;> try exact Xp)
 |((with_reducible refine aapp_go ?_);refine Xt ?_;intro idn σn hOn hKn eobj enobj ever entop)
 |((with_reducible refine aappn_go ?_);refine Xu ?_)
 |((with_reducible refine Xh ?_);refine Xi (hCn _) ?_;rintro _ _ ⟨rfl,rfl⟩)
 |refine Xr ?_
 |exact True.intro
 |(apply hκ.out;clear hκ κ))
     refine ⟨t.length - (i + 1), by omega, i + 1, f, id, d, ?_⟩
     ((repeat' with_reducible refine And.intro ?_ ?_)<;> first|exact Xq|exact (HF)|exact Xs)
    ·have e1 : ((c.toNat : Int) == 45) = false := by rw [show (45 : Int) = ((45 : UInt8).toNat : Int) from rfl, byte_is]; simpa using h45
     by_cases h44 : c = 44
     ·subst h44
      have hz2 : ((((t.drop f).take (i - f)).count 40 : Nat) : Int) ≠ 0 := fun e => hz ⟨.inr rfl, by omega⟩
      have hz3 : (((((t.drop f).take (i - f)).count 40 : Nat) : Int) == 0) = false := by simpa using hz2
      have e2 : (((44 : UInt8).toNat : Int) == 44) = true := rfl
      clear hz2 hz h45
      generalize ((t.drop f).take (i - f)).count 40 = cn at hCn hz3
      repeat' (first
 |with_reducible first|apply Xa|apply Xb|(refine Xc ?_;intro κ hκ)|(apply hκ.out;clear hκ κ)|apply Xd|apply Xe|apply Xf
 |((with_reducible first|refine Xl ?_ ?_|refine Xk ?_ ?_)<;> intro h hari<;> try exact Xp)
 |((with_reducible refine aapp_go ?_);refine Xt ?_;intro idn σn hOn hKn eobj enobj ever entop)
 |((with_reducible refine aappn_go ?_);refine Xu ?_)
 |((with_reducible refine Xh ?_);refine Xi (hCn _) ?_;rintro _ _ ⟨rfl,rfl⟩)
 |refine Xr ?_
 |exact True.intro
 |(apply hκ.out;clear hκ κ))
      refine ⟨t.length - (i + 1), by omega, i + 1, f, id, d, ?_⟩
      ((repeat' with_reducible refine And.intro ?_ ?_)<;> first|exact Xq|exact (HF)|exact Xs)
     ·have e2 : ((c.toNat : Int) == 44) = false := by rw [show (44 : Int) = ((44 : UInt8).toNat : Int) from rfl, byte_is]; simpa using h44
      clear hz h45 h44 hCn
      repeat' (first
 |with_reducible first|apply Xa|apply Xb|(refine Xc ?_;intro κ hκ)|(apply hκ.out;clear hκ κ)|apply Xd|apply Xe|apply Xf
 |((with_reducible first|refine Xl ?_ ?_|refine Xk ?_ ?_)<;> intro h hari<;> try exact Xp)
 |((with_reducible refine aapp_go ?_);refine Xt ?_;intro idn σn hOn hKn eobj enobj ever entop)
 |((with_reducible refine aappn_go ?_);refine Xu ?_)
 |refine Xr ?_
 |exact True.intro
 |(apply hκ.out;clear hκ κ))
      refine ⟨t.length - (i + 1), by omega, i + 1, f, id, d, ?_⟩
      ((repeat' with_reducible refine And.intro ?_ ?_)<;> first|exact Xq|exact (HF)|exact Xs)
 ·have hil : i = t.length := by omega
  have HP : Abs.Hid (atsL t = d) := by
   have := hF.out
   rw [hil, List.take_length] at this
   rw [Abs.Hid, atsL, this]
  clear hF hCn
  repeat' (first
 |with_reducible first|apply Xa|apply Xb|(refine Xc ?_;intro κ hκ)|(apply hκ.out;clear hκ κ)|apply Xd|apply Xe|apply Xf
 |((with_reducible first|refine Xl ?_ ?_|refine Xk ?_ ?_)<;> intro h hari<;> try exact Xp)
 |((with_reducible refine aapp_go ?_);refine Xt ?_;intro idn σn hOn hKn eobj enobj ever entop)
 |((with_reducible refine aappn_go ?_);refine Xu ?_)
 |refine Xr ?_
 |exact True.intro
 |(apply hκ.out;clear hκ κ))
  first | exact ⟨_, rfl, ⟨id, by rw [HP.out]⟩, hK⟩ | exact ⟨_, rfl, id, by rw [HP.out]⟩
/- What Spare puts, read off the texts alone. Pure. -/
end Go.Proofs.YtmoeoppbmhfbpaaGreatDoorU
