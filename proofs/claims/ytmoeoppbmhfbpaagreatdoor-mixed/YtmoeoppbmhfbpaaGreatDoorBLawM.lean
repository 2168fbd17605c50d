import Derived.Test.YtmoeoppbmhfbpaaGreatDoorBMixE
import Derived.Test.YtmoeoppbmhfbpaaGreatDoorBRunB
import Derived.Test.YtmoeoppbmhfbpaaGreatDoorBEngU
/- The law: Mixed. -/
namespace Go.Proofs.YtmoeoppbmhfbpaaGreatDoorB
open Go.Abs
set_option linter.unusedSimpArgs false
set_option linter.unusedVariables false
set_option maxRecDepth 100000
theorem pc_mem {B : Nat} : ∀ (t : Tx) (d : List Tx) (u : Tx), (∀ q ∈ d, q.length ≤ B) → u.length + t.length ≤ B → (∀ q ∈ (t.foldl pcF (d, u)).1, q.length ≤ B) ∧ (t.foldl pcF (d, u)).2.length ≤ B
 | [], d, u, h, hu => ⟨h, by simpa using hu⟩
 | c :: t, d, u, h, hu => by
  rw [List.foldl_cons]
  rw [List.length_cons] at hu
  unfold pcF
  split
  ·refine pc_mem t _ [] (fun q hq => ?_) (by simp; omega)
   rcases List.mem_append.1 hq with hq | hq
   ·exact h q hq
   ·rw [List.mem_singleton.1 hq]; simp; omega
  ·exact pc_mem t d _ h (by simp; omega)
theorem pcs_mem {t p : Tx} (h : p ∈ pcsL t) : p.length ≤ t.length := by
 obtain ⟨h1, h2⟩ := pc_mem (B := t.length) t [] [] (by simp) (by simp)
 unfold pcsL at h
 split at h
 ·exact h1 p h
 ·rcases List.mem_append.1 h with h | h
  ·exact h1 p h
  ·rw [List.mem_singleton.1 h]; exact h2
theorem ex_calls (σ : St) : ACalls Tryz.prog 18 [sc (.string (bs exT)), sc (.string (bs exF)), ic 1] σ fun r σ' => r = tp [str [112, 40, 55, 41, 46], ic 1, ic 0] ∧ Keep σ σ' := by
 refine ACalls.mono (run_spec exT exF 1 σ) ?_
 rintro r σ' ⟨x, k, e, rfl, h, hK⟩
 obtain ⟨rfl, rfl, rfl⟩ := ex_run h
 exact ⟨rfl, hK⟩
set_option maxHeartbeats 32000000 in
theorem mixed_spec (t f : Tx) (n k : Int) (hk0 : -9223372036854775808 ≤ k) (hk1 : k ≤ 9223372036854775807) (σ : St) : ACalls Tryz.prog 7 [str t, str f, ic n, ic k] σ fun r σ' => r = sc (.bool true) ∧ Keep σ σ' := by
 have hc0 : ({ data := #[] } : ByteArray) = bs [] := rfl
 have hc1 : ({ data := #[112, 40, 65, 41, 58, 45, 101, 40, 65, 41, 46, 63, 112, 46] } : ByteArray) = bs exT := rfl
 have hc2 : ({ data := #[101, 40, 55, 41, 46] } : ByteArray) = bs exF := rfl
 have hc3 : ({ data := #[112, 40, 55, 41, 46] } : ByteArray) = bs [112, 40, 55, 41, 46] := rfl
 have hc4 : ({ data := #[63] } : ByteArray) = bs [63] := rfl
 have hc5 : ({ data := #[46] } : ByteArray) = bs [46] := rfl
 refine acalls 143 [.tmp 8] Tryz.func7 rfl (by decide) rfl rfl (Nat.le_of_ble_eq_true rfl) ?_
 repeat' (first
 |with_reducible first|apply Xa|apply Xb|(refine Xc ?_;intro κ hκ)|(apply hκ.out;clear hκ κ)|apply Xd|apply Xe|apply Xf
 |((with_reducible first|refine Xl ?_ ?_|refine Xm ?_ ?_|refine Xk ?_ ?_)<;> intro h hari<;> try exact Xp)
 |refine Xw ?_
 |exact True.intro
 |((with_reducible refine Xg ?_);refine Xj ?_)
 |(apply hκ.out;clear hκ κ))
 refine ACalls.mono (ex_calls _) ?_
 rintro _ σ1 ⟨rfl, hK1⟩
 refine Xw ?_
 repeat' (first
 |with_reducible first|apply Xa|apply Xb|(refine Xc ?_;intro κ hκ)|(apply hκ.out;clear hκ κ)|apply Xd|apply Xe|apply Xf
 |((with_reducible first|refine Xl ?_ ?_|refine Xm ?_ ?_|refine Xk ?_ ?_)<;> intro h hari<;> try exact Xp)
 |refine Xw ?_
 |exact True.intro
 |((with_reducible refine Xg ?_);refine Xj ?_)
 |(apply hκ.out;clear hκ κ))
 refine ACalls.mono (run_spec t f n _) ?_
 rintro _ σ2 ⟨s, c, e, rfl, hP, hK2⟩
 have hKa := hK1.trans hK2
 by_cases he : e ≠ 0 ∧ e ≠ 9
 ·obtain ⟨rfl, rfl⟩ := mix_out hP he
  have h9 : (e != 0) = true := by simpa using he.1
  have h99 : (e != 9) = true := by simpa using he.2
  clear hP
  refine Xw ?_
  repeat' (first
 |with_reducible first|apply Xa|apply Xb|(refine Xc ?_;intro κ hκ)|(apply hκ.out;clear hκ κ)|apply Xd|apply Xe|apply Xf
 |((with_reducible first|refine Xl ?_ ?_|refine Xm ?_ ?_|refine Xk ?_ ?_)<;> intro h hari<;> try exact Xp)
 |refine Xw ?_
 |exact True.intro
 |((with_reducible refine Xg ?_);refine Xj ?_)
 |(apply hκ.out;clear hκ κ))
  first | exact ⟨_, rfl, rfl, hKa⟩ | exact ⟨_, rfl, rfl⟩
 ·obtain ⟨m1, m2, m3, m4, m5, m6⟩ := mix_len hP he
  have HMX : Abs.Hid (∀ s' c' e', RunP (turL t) (shuL f k) n s' c' e' → s' = s ∧ c' = c ∧ e' = e) := fun s' c' e' h => mix_one hP he h
  have hTu := fun σ => kturned_spec t m1 (by omega) (fun p hp => by have := pcs_mem hp; omega) σ
  have hSh := fun σ => kshuffled_spec f k hk0 hk1 m2 m4 (fun p hp => by have := pcs_mem hp; omega) σ
  have hR2 := fun σ => run_spec (turL t) (shuL f k) n σ
  have hPc := fun σ => kpieces_spec f (by omega) σ
  have hcc : (c != c) = false := by simp
  have hss : (s != s) = false := by simp
  generalize turL t = tt at *
  generalize shuL f k = ff at *
  have he2 : e = 0 ∨ e = 9 := by omega
  rcases he2 with rfl | rfl
  ·have HM2 : Abs.Hid (∀ p P, pcsL f = p :: P → ∃ q : Tx, prsL p = [q] ∧ p.length ≤ 400 ∧ q.length ≤ 6 ∧ (pcsL (t ++ [63] ++ q ++ [46])).length ≤ 17 ∧ ((t ++ [63] ++ q ++ [46]).length ≤ 600 → (pcsL (t ++ [63] ++ q ++ [46])).length ≤ 16 → ∀ u b e, RunP (t ++ [63] ++ q ++ [46]) f n u b e → e = 0 ∧ b = c ∧ s.length ≤ u.length ∧ u.take s.length = s ∧ p ∈ pcsL u ∧ u.length ≤ 1000000 ∧ (pcsL u).length ≤ 1000000)) := fun p P hp => mix_two hP hp
   clear hP he
   cases hL : pcsL f with
   | nil =>
    rw [hL] at hPc
    clear HM2 hL
    refine Xw ?_
    repeat' (first
 |with_reducible first|apply Xa|apply Xb|(refine Xc ?_;intro κ hκ)|(apply hκ.out;clear hκ κ)|apply Xd|apply Xe|apply Xf
 |((with_reducible first|refine Xl ?_ ?_|refine Xm ?_ ?_|refine Xk ?_ ?_)<;> intro h hari<;> try exact Xp)
 |((with_reducible refine Xh ?_);first|(refine Xi (hTu _) ?_;rintro _ _ ⟨rfl,hK3⟩)|(refine Xi (hSh _) ?_;rintro _ _ ⟨rfl,hK4⟩)|(refine Xi (hR2 _) ?_;rintro _ _ ⟨s',c',e',rfl,hP2,hK5⟩;(obtain ⟨g1,g2,g3⟩:=HMX.out _ _ _ hP2;subst g1;subst g2;subst g3;clear hP2))|(refine Xi (hPc _) ?_;rintro _ _ ⟨⟨id,rfl⟩,hK6⟩))
 |refine Xw ?_
 |exact True.intro
 |((with_reducible refine Xg ?_);refine Xj ?_)
 |(apply hκ.out;clear hκ κ))
    first | exact ⟨_, rfl, rfl, (((hKa.trans hK3).trans hK4).trans hK5).trans hK6⟩ | exact ⟨_, rfl, rfl⟩
   | cons p P =>
    rw [hL] at hPc
    obtain ⟨q, q1, q2, q3, q4, q5⟩ := HM2.out p P hL
    have hPr := fun σ => kpredicates_spec p (by omega) σ
    have hPm := fun σ => kpieces_spec (t ++ [63] ++ q ++ [46]) (by simp; omega) σ
    have hR3 := fun σ => run_spec (t ++ [63] ++ q ++ [46]) f n σ
    rw [q1] at hPr
    have HQ : Abs.Hid _ := q5
    clear HM2 hL q1 q5
    refine Xw ?_
    repeat' (first
 |with_reducible first|apply Xa|apply Xb|(refine Xc ?_;intro κ hκ)|(apply hκ.out;clear hκ κ)|apply Xd|apply Xe|apply Xf
 |((with_reducible first|refine Xl ?_ ?_|refine Xm ?_ ?_|refine Xk ?_ ?_)<;> intro h hari<;> try exact Xp)
 |((with_reducible refine Xh ?_);first|(refine Xi (hTu _) ?_;rintro _ _ ⟨rfl,hK3⟩)|(refine Xi (hSh _) ?_;rintro _ _ ⟨rfl,hK4⟩)|(refine Xi (hR2 _) ?_;rintro _ _ ⟨s',c',e',rfl,hP2,hK5⟩;(obtain ⟨g1,g2,g3⟩:=HMX.out _ _ _ hP2;subst g1;subst g2;subst g3;clear hP2))|(refine Xi (hPc _) ?_;rintro _ _ ⟨⟨id,rfl⟩,hK6⟩)|(refine Xi (hPr _) ?_;rintro _ _ ⟨⟨id2,rfl⟩,hK7⟩)|(refine Xi (hPm _) ?_;rintro _ _ ⟨⟨id3,rfl⟩,hK8⟩)|(refine Xi (hR3 _) ?_;rintro _ _ ⟨u,b,e3,rfl,hP3,hK9⟩;(obtain ⟨g1,g2,g3,g4,g5,g6,g7⟩:=HQ.out (by simp only [List.length_append,List.length_cons,List.length_nil];omega) (by omega) _ _ _ hP3;subst g1;subst g2;clear hP3 HQ HMX hR2 hTu hSh hPc hPr hPm hR3)))
 |refine Xw ?_
 |exact True.intro
 |((with_reducible refine Xg ?_);refine Xj ?_)
 |(apply hκ.out;clear hκ κ))
    ·first | exact ⟨_, rfl, rfl, (((((hKa.trans hK3).trans hK4).trans hK5).trans hK6).trans hK7).trans hK8⟩ | exact ⟨_, rfl, rfl⟩
    ·rename St => σ9
     have hKz := ((((((hKa.trans hK3).trans hK4).trans hK5).trans hK6).trans hK7).trans hK8).trans hK9
     have hBe := fun σ => kbegins_spec u s' g3 g4 σ
     have hPu := fun σ => kpieces_spec u g6 σ
     have hAm := fun id σ => kamong_spec (pcsL u) id p (by omega) σ
     have hpu : decide (p ∈ pcsL u) = true := by rw [decide_eq_true_eq]; exact g5
     have hbb : (b == b) = true := by simp
     rw [hpu] at hAm
     generalize pcsL u = U at *
     clear hK1 hK2 hKa hK3 hK4 hK5 hK6 hK7 hK8 hK9 g3 g4 g5 g6 hpu
     refine awp_mono (Q := fun e s' σ'' => e = .normal ∧ s' 8 = sc (.bool true) ∧ Keep σ9 σ'') ?_ ?_
     ·refine awp_draw_h follows_mixed (fun _ => True) [] [0, 1, 2, 3, 4, 5, 6, 7, 8, 9] 11 #[true, true, true, true, true, true, true, true, true, true, false, false, false, false, false, false, false, false, false, false, false] (by kernel_rfl) (fun _ _ _ h => by cases h.1) ?_; intro κ hκ; refine Xw ?_; refine hκ.out _ ?_; clear hκ κ
      refine uany_one (i := 10) (by kernel_rfl) ?_; refine aOne_k ?_; intro κ hκ; refine Xw ?_
      refine ACalls.mono (hBe _) ?_
      rintro _ _ ⟨rfl, rfl⟩
      refine Xw ?_
      refine hκ.out _ _ ⟨kept_refl, ?_⟩; clear hκ κ
      refine uany_more [11, 12, 13, 15, 16, 17] 4 10 #[true, true, true, true, true, true, true, true, true, true, true, true, true, true, false, true, true, true, false, false, false] rfl (by kernel_rfl) (by kernel_rfl) (fun _ _ _ h => by cases h.1) (Nat.le_refl _) (fun o ho _ => rfl) ?_; intro κ hκ; refine Xw ?_; refine hκ.out _ ?_; clear hκ κ
      refine uany_one (i := 14) (by kernel_rfl) ?_; refine aOne_k ?_; intro κ hκ; refine Xw ?_
      refine ACalls.mono (hPu _) ?_
      rintro _ σa ⟨⟨id5, rfl⟩, hK5⟩
      refine Xw ?_
      refine hκ.out _ _ ⟨kept_keep hK5, ?_⟩; clear hκ κ
      refine uany_one (i := 18) (by kernel_rfl) ?_; refine aOne_k ?_; intro κ hκ; refine Xw ?_
      refine ACalls.mono (hAm _ _) ?_
      rintro _ _ ⟨rfl, rfl⟩
      refine Xw ?_
      refine hκ.out _ _ ⟨kept_keep hK5, ?_⟩; clear hκ κ
      refine uany_rest [19, 20] (by kernel_rfl) (by kernel_rfl) (fun _ _ _ h => by cases h.1) hK5.nobj (fun o ho _ => hK5.ver o ho) ?_
      intro κ hκ
      refine Xw ?_
      refine hκ.out _ _ ⟨rfl, ?_⟩
      simp [upd, hK5]
     ·rintro e s'' σ'' ⟨rfl, g8, hK5⟩
      have hKy := hKz.trans hK5
      clear hKz hK5
      repeat' (first
 |with_reducible first|apply Xa|apply Xb|(refine Xc ?_;intro κ hκ)|(apply hκ.out;clear hκ κ)|apply Xd|apply Xe|apply Xf
 |((with_reducible first|refine Xl ?_ ?_|refine Xm ?_ ?_|refine Xk ?_ ?_)<;> intro h hari<;> try exact Xp)
 |refine Xw ?_
 |exact True.intro
 |((with_reducible refine Xg ?_);refine Xj ?_)
 |(apply hκ.out;clear hκ κ))
      first | exact ⟨_, rfl, rfl, hKy⟩ | exact ⟨_, rfl, rfl⟩
    ·first | exact ⟨_, rfl, rfl, ((((hKa.trans hK3).trans hK4).trans hK5).trans hK6).trans hK7⟩ | exact ⟨_, rfl, rfl⟩
  ·clear hP he
   generalize pcsL f = L at *
   refine Xw ?_
   repeat' (first
 |with_reducible first|apply Xa|apply Xb|(refine Xc ?_;intro κ hκ)|(apply hκ.out;clear hκ κ)|apply Xd|apply Xe|apply Xf
 |((with_reducible first|refine Xl ?_ ?_|refine Xm ?_ ?_|refine Xk ?_ ?_)<;> intro h hari<;> try exact Xp)
 |((with_reducible refine Xh ?_);first|(refine Xi (hTu _) ?_;rintro _ _ ⟨rfl,hK3⟩)|(refine Xi (hSh _) ?_;rintro _ _ ⟨rfl,hK4⟩)|(refine Xi (hR2 _) ?_;rintro _ _ ⟨s',c',e',rfl,hP2,hK5⟩;(obtain ⟨g1,g2,g3⟩:=HMX.out _ _ _ hP2;subst g1;subst g2;subst g3;clear hP2))|(refine Xi (hPc _) ?_;rintro _ _ ⟨⟨id,rfl⟩,hK6⟩))
 |refine Xw ?_
 |exact True.intro
 |((with_reducible refine Xg ?_);refine Xj ?_)
 |(apply hκ.out;clear hκ κ))
   all_goals first | exact ⟨_, rfl, rfl, (((hKa.trans hK3).trans hK4).trans hK5).trans hK6⟩ | exact ⟨_, rfl, rfl⟩
end Go.Proofs.YtmoeoppbmhfbpaaGreatDoorB
