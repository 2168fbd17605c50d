import Derived.Test.YtmoeoppbmhfbpaaGreatDoorBProgN
/- The program: what uses what. -/
namespace Go.Proofs.YtmoeoppbmhfbpaaGreatDoorB
open Go.Abs
set_option linter.unusedSimpArgs false
set_option linter.unusedVariables false
set_option maxRecDepth 100000
theorem part_keep {n : Nat} {M W : Nat → Nat → Bool} {m i k : Nat} (h : part n M m i k W) (hv : fw M m i k = M i k) : part n M m i (k + 1) W := by
 intro a b
 rw [h]
 by_cases hc : (a < i ∧ b < n) ∨ (a = i ∧ b < k)
 ·rw [if_pos hc, if_pos (by omega)]
 ·rw [if_neg hc]
  by_cases hd : (a < i ∧ b < n) ∨ (a = i ∧ b < k + 1)
  ·rw [if_pos hd]
   have e1 : a = i := by omega
   have e2 : b = k := by omega
   rw [e1, e2, hv]
  ·rw [if_neg hd]
theorem part_skip {n : Nat} {M W : Nat → Nat → Bool} {m i : Nat} (h : part n M m i 0 W) (hv : M i m = false) : part n M m (i + 1) 0 W := by
 intro a b
 rw [h]
 by_cases hc : (a < i ∧ b < n) ∨ (a = i ∧ b < 0)
 ·rw [if_pos hc, if_pos (by omega)]
 ·rw [if_neg hc]
  by_cases hd : (a < i + 1 ∧ b < n) ∨ (a = i + 1 ∧ b < 0)
  ·rw [if_pos hd]
   have e1 : a = i := by omega
   rw [e1]; simp [fw, hv]
  ·rw [if_neg hd]
set_option maxHeartbeats 16000000 in
theorem puses_spec (N : List Tx) (l : List RItem) (cs : List AV) (idn idi : Nat) (hB : Bk N l cs) (σ : St) : ACalls Tryz.prog 165 [bookA N idn l idi cs] σ fun r σ' => ∃ idu B M, r = sl idu N.length (rowsC B N.length N.length) ∧ Keep σ σ' ∧ σ.nobj ≤ B ∧ B + N.length ≤ σ'.nobj ∧ Mat B N.length (fwR N.length M N.length) σ' ∧ isOnce N l M := by
 have hN := hB.nm
 refine acalls 49 [.tmp 2] Tryz.func165 rfl (by decide) rfl rfl (Nat.le_of_ble_eq_true rfl) ?_
 repeat' (first
 |with_reducible first|apply Xa|apply Xb|(refine Xc ?_;intro κ hκ)|(apply hκ.out;clear hκ κ)|apply Xd|apply Xe|apply Xf
 |((with_reducible first|refine Xl ?_ ?_|refine Xk ?_ ?_)<;> intro h hari<;> try exact Xp)
 |((with_reducible refine Xh ?_);refine Xi (usesAtOnce_spec N l cs idn idi hB _) ?_;rintro _ _ ⟨idu,B,M0,rfl,hK0,hB0,hnb0,hM0,hI0⟩;(rw [new_nobj] at hB0))
 |refine Xr ?_
 |exact True.intro
 |(apply hκ.out;clear hκ κ))
 rename_i σ1
 have HI0 : Abs.Hid (isOnce N l M0) := hI0
 clear hI0
 have hrl := rowsC_len B N.length N.length
 have hKs : Keep σ σ1 := by exact Xs
 clear hK0
 refine awp_loop (fun q s σ' => ∃ m : Nat, q = N.length - m ∧ m ≤ N.length ∧ s 3 = sl idu N.length (rowsC B N.length N.length) ∧ s 10 = sc (.int .i64 N.length) ∧ s 11 = sc (.int .i64 m) ∧ Keep σ σ' ∧ B + N.length ≤ σ'.nobj ∧ Abs.Hid (Mat B N.length (fwR N.length M0 m) σ')) N.length
  ⟨0, by omega, by omega, rfl, rfl, rfl, hKs, hnb0, hM0⟩ ?_
 clear hKs hM0 hnb0
 rintro q s σ' ⟨m, rfl, hm, h3, h10, h11, hK, hnb, hM⟩
 by_cases hlt : m < N.length
 ·generalize hMm : fwR N.length M0 m = M at hM
  have HMm : Abs.Hid _ := hMm
  clear hMm
  repeat' (first
 |with_reducible first|apply Xa|apply Xb|(refine Xc ?_;intro κ hκ)|(apply hκ.out;clear hκ κ)|apply Xd|apply Xe|apply Xf
 |((with_reducible first|refine Xl ?_ ?_|refine Xk ?_ ?_)<;> intro h hari<;> try exact Xp)
 |refine Xr ?_
 |exact True.intro
 |(apply hκ.out;clear hκ κ))
  refine awp_loop (fun q s σ' => ∃ (i : Nat) (W : Nat → Nat → Bool), q = N.length - i ∧ i ≤ N.length ∧ s 3 = sl idu N.length (rowsC B N.length N.length) ∧ s 4 = sc (.int .i64 m) ∧ s 10 = sc (.int .i64 N.length) ∧ s 11 = sc (.int .i64 m) ∧ s 15 = sc (.int .i64 N.length) ∧ s 16 = sc (.int .i64 i) ∧ Keep σ σ' ∧ B + N.length ≤ σ'.nobj ∧ Abs.Hid (Mat B N.length W σ') ∧ Abs.Hid (part N.length M m i 0 W)) N.length
   ⟨0, M, by omega, by omega, by simp [upd, h3], by simp [upd], by simp [upd, h10], by simp [upd, h11], rfl, rfl, hK, hnb, hM, part_zero⟩ ?_
  clear hK hnb hM h3 h10 h11
  rintro q s σ' ⟨i, W, rfl, hi, h3, h4, h10, h11, h15, h16, hK, hnb, hM, hW⟩
  by_cases hlt2 : i < N.length
  ·have hr1 := rowsC_get (B := B) (n := N.length) (k := N.length) hlt2
   have hmo := hM.out _ hlt2
   have hvl := bvec_len N.length (W i)
   have hvg := bvec_get (W i) hlt
   obtain ⟨-, v2, -⟩ := part_val hW.out (by omega : 0 < N.length) hlt
   rw [v2] at hvg
   have HV2 : Abs.Hid _ := v2
   clear v2
   repeat' (first
 |with_reducible first|apply Xa|apply Xb|(refine Xc ?_;intro κ hκ)|(apply hκ.out;clear hκ κ)|apply Xd|apply Xe|apply Xf
 |((with_reducible first|refine Xl ?_ ?_|refine Xk ?_ ?_)<;> intro h hari<;> try exact Xp)
 |refine Xr ?_
 |exact True.intro
 |(apply hκ.out;clear hκ κ))
   ·exact ⟨N.length - (i + 1), by omega, i + 1, W, rfl, by omega, by simp, hM, part_skip hW.out h⟩
   ·have hMim : M i m = true := h
    refine awp_loop (fun q s σ' => ∃ (k : Nat) (W : Nat → Nat → Bool), q = N.length - k ∧ k ≤ N.length ∧ s 3 = sl idu N.length (rowsC B N.length N.length) ∧ s 4 = sc (.int .i64 m) ∧ s 5 = sc (.int .i64 i) ∧ s 10 = sc (.int .i64 N.length) ∧ s 11 = sc (.int .i64 m) ∧ s 15 = sc (.int .i64 N.length) ∧ s 16 = sc (.int .i64 i) ∧ s 28 = sc (.int .i64 N.length) ∧ s 29 = sc (.int .i64 k) ∧ Keep σ σ' ∧ B + N.length ≤ σ'.nobj ∧ Abs.Hid (Mat B N.length W σ') ∧ Abs.Hid (part N.length M m i k W)) N.length
     ⟨0, W, by omega, by omega, by simp [upd, h3], by simp [upd, h4], by simp [upd], by simp [upd, h10], by simp [upd, h11], by simp [upd, h15], by simp [upd, h16], rfl, rfl, hK, hnb, hM, hW⟩ ?_
    clear hK hnb hM hW h3 h4 h10 h11 h15 h16 hvg hvl hmo HV2 h W
    rintro q s σ' ⟨k, W, rfl, hk, h3, h4, h5, h10, h11, h15, h16, h28, h29, hK, hnb, hM, hW⟩
    by_cases hlt3 : k < N.length
    ·obtain ⟨-, -, v3⟩ := part_val hW.out hlt3 hlt
     have hrm := rowsC_get (B := B) (n := N.length) (k := N.length) hlt
     have hmo1 := hM.out _ hlt2
     have hmo2 := hM.out _ hlt
     have hvl1 := bvec_len N.length (W i)
     have hvl2 := bvec_len N.length (W m)
     have hvg := bvec_get (W m) hlt3
     rw [v3] at hvg
     clear v3
     have hms := Mat.set (q := k) hM.out hlt2 true
     have HMS : Abs.Hid _ := hms
     clear hms
     generalize hmk : M m k = vk at hvg
     have HMK : Abs.Hid _ := hmk
     clear hmk
     cases vk with
     | true =>
      repeat' (first
 |with_reducible first|apply Xa|apply Xb|(refine Xc ?_;intro κ hκ)|(apply hκ.out;clear hκ κ)|apply Xd|apply Xe|apply Xf
 |((with_reducible first|refine Xl ?_ ?_|refine Xk ?_ ?_)<;> intro h hari<;> try exact Xp)
 |refine Xr ?_
 |exact True.intro
 |(apply hκ.out;clear hκ κ))
      exact ⟨N.length - (k + 1), by omega, k + 1, _, rfl, by omega, by simp, hK.put (by omega) _, HMS.out, part_set hW.out (by simp [fw, hMim, HMK.out])⟩
     | false =>
      repeat' (first
 |with_reducible first|apply Xa|apply Xb|(refine Xc ?_;intro κ hκ)|(apply hκ.out;clear hκ κ)|apply Xd|apply Xe|apply Xf
 |((with_reducible first|refine Xl ?_ ?_|refine Xk ?_ ?_)<;> intro h hari<;> try exact Xp)
 |refine Xr ?_
 |exact True.intro
 |(apply hκ.out;clear hκ κ))
      exact ⟨N.length - (k + 1), by omega, k + 1, W, rfl, by omega, by simp, hM, part_keep hW.out (by simp [fw, HMK.out])⟩
    ·have hkl : k = N.length := by omega
     subst hkl
     repeat' (first
 |with_reducible first|apply Xa|apply Xb|(refine Xc ?_;intro κ hκ)|(apply hκ.out;clear hκ κ)|apply Xd|apply Xe|apply Xf
 |((with_reducible first|refine Xl ?_ ?_|refine Xk ?_ ?_)<;> intro h hari<;> try exact Xp)
 |refine Xr ?_
 |exact True.intro
 |(apply hκ.out;clear hκ κ))
     exact ⟨N.length - (i + 1), by omega, i + 1, W, rfl, by omega, by simp, hM, part_row hW.out⟩
  ·have hil : i = N.length := by omega
   subst hil
   repeat' (first
 |with_reducible first|apply Xa|apply Xb|(refine Xc ?_;intro κ hκ)|(apply hκ.out;clear hκ κ)|apply Xd|apply Xe|apply Xf
 |((with_reducible first|refine Xl ?_ ?_|refine Xk ?_ ?_)<;> intro h hari<;> try exact Xp)
 |refine Xr ?_
 |exact True.intro
 |(apply hκ.out;clear hκ κ))
   refine ⟨N.length - (m + 1), by omega, m + 1, rfl, by omega, by simp, ?_⟩
   rw [Abs.Hid, show fwR N.length M0 (m + 1) = W by rw [part_all hW.out, ← HMm.out]; rfl]
   exact hM.out
 ·have hml : m = N.length := by omega
  subst hml
  repeat' (first
 |with_reducible first|apply Xa|apply Xb|(refine Xc ?_;intro κ hκ)|(apply hκ.out;clear hκ κ)|apply Xd|apply Xe|apply Xf
 |((with_reducible first|refine Xl ?_ ?_|refine Xk ?_ ?_)<;> intro h hari<;> try exact Xp)
 |refine Xr ?_
 |exact True.intro
 |(apply hκ.out;clear hκ κ))
  first
  | exact ⟨_, rfl, idu, B, M0, rfl, hK, by omega, hnb, hM.out, HI0.out⟩
  | exact ⟨_, rfl, idu, B, M0, rfl, by omega, hnb, hM.out, HI0.out⟩
/- The program: the first rule that hangs on its own not being so. -/
def pbad (N : List Tx) (U : Nat → Nat → Bool) (h : Tx) (a : RAtom) : Bool := a.nt && (((N.idxOf a.pred : Nat) : Int) == ((N.idxOf h : Nat) : Int) || U (N.idxOf a.pred) (N.idxOf h))
def pknot (N : List Tx) (l : List RItem) (U : Nat → Nat → Bool) (i : Nat) : Bool := match l[i]? with | some x => x.body.any (pbad N U x.head.pred) | none => false
set_option maxHeartbeats 16000000 in
theorem firstNot_spec (N : List Tx) (l : List RItem) (cs : List AV) (idn idi : Nat) (hB : Bk N l cs) (σ : St) : ACalls Tryz.prog 123 [bookA N idn l idi cs] σ fun r σ' => ∃ M, isOnce N l M ∧ r = sc (.int .i64 (firstN (pknot N l (fwR N.length M N.length)) l.length)) ∧ Keep σ σ' := by
 have hcl := EL.length PI_len hB.el
 have hl16 := hB.len
 have hN := hB.nm
 refine acalls 52 [.tmp 2] Tryz.func123 rfl (by decide) rfl rfl (Nat.le_of_ble_eq_true rfl) ?_
 repeat' (first
 |with_reducible first|apply Xa|apply Xb|(refine Xc ?_;intro κ hκ)|(apply hκ.out;clear hκ κ)|apply Xd|apply Xe|apply Xf
 |((with_reducible first|refine Xl ?_ ?_|refine Xk ?_ ?_)<;> intro h hari<;> try exact Xp)
 |((with_reducible refine Xh ?_);refine Xi (puses_spec N l cs idn idi hB _) ?_;rintro _ _ ⟨idu,B,M0,rfl,hK0,hB0,hnb0,hM0,hI0⟩;(rw [new_nobj] at hB0;have kob0:=hK0.obj;have kno0:=hK0.nobj;(try simp only [new_nobj,put_nobj,lay_nobj] at kno0)))
 |refine Xr ?_
 |exact True.intro
 |(apply hκ.out;clear hκ κ))
 rename_i σ1
 have HI0 : Abs.Hid (isOnce N l M0) := hI0
 clear hI0 kob0
 have hrl := rowsC_len B N.length N.length
 have hKs : Keep σ σ1 := by exact Xs
 clear hK0
 generalize hU : fwR N.length M0 N.length = U at hM0
 have HU : Abs.Hid _ := hU
 clear hU
 refine awp_loop (fun m s σ' => ∃ i : Nat, m = l.length - i ∧ i ≤ l.length ∧ s 3 = sl idu N.length (rowsC B N.length N.length) ∧ s 13 = sl idi l.length cs ∧ s 14 = sc (.int .i64 l.length) ∧ s 15 = sc (.int .i64 i) ∧ Keep σ σ' ∧ B + N.length ≤ σ'.nobj ∧ Abs.Hid (Mat B N.length U σ') ∧ Abs.Hid (∀ j, j < i → pknot N l U j = false)) l.length
  ⟨0, by omega, by omega, by simp [upd], by simp [upd], by simp [upd], rfl, hKs, hnb0, hM0, fun j hj => by omega⟩ ?_
 clear hKs hM0 hnb0 kno0
 rintro m s σ' ⟨i, rfl, hi, h3, h13, h14, h15, hK, hnb, hM, hno⟩
 have kno := hK.nobj
 by_cases hlt : i < l.length
 ·have hget := List.getElem?_eq_getElem hlt
  have hf1 := hB.fits l[i] (List.getElem_mem hlt)
  obtain ⟨hm, ih, id, b, r, hb, hd⟩ := EL_PI hB.el hget
  generalize l[i] = x at hd hget hf1 hb hm
  have hv : Abs.Hid (pknot N l U i = x.body.any (pbad N U x.head.pred)) := by rw [Abs.Hid, pknot, hget]
  clear hget
  have hbl := EL.length PL_len hb
  have hx1 := hf1.1
  have hpx := List.idxOf_lt_length_of_mem hm
  repeat' (first
 |with_reducible first|apply Xa|apply Xb|(refine Xc ?_;intro κ hκ)|(apply hκ.out;clear hκ κ)|apply Xd|apply Xe|apply Xf
 |((with_reducible first|refine Xl ?_ ?_|refine Xk ?_ ?_)<;> intro h hari<;> try exact Xp)
 |refine Xr ?_
 |exact True.intro
 |(apply hκ.out;clear hκ κ))
  refine awp_loop (fun m s σ'' => ∃ j : Nat, m = x.body.length - j ∧ j ≤ x.body.length ∧ s 3 = sl idu N.length (rowsC B N.length N.length) ∧ s 4 = sc (.int .i64 i) ∧ s 6 = sc (.int .i64 (N.idxOf x.head.pred : Nat)) ∧ s 13 = sl idi l.length cs ∧ s 14 = sc (.int .i64 l.length) ∧ s 15 = sc (.int .i64 i) ∧ s 24 = sl id x.body.length b ∧ s 25 = sc (.int .i64 x.body.length) ∧ s 26 = sc (.int .i64 j) ∧ Keep σ σ'' ∧ B + N.length ≤ σ''.nobj ∧ Abs.Hid (Mat B N.length U σ'') ∧ Abs.Hid ((x.body.take j).any (pbad N U x.head.pred) = false)) x.body.length
   ⟨0, by omega, by omega, by simp [upd, h3], by simp [upd], by simp [upd], by simp [upd, h13], by simp [upd, h14], by simp [upd, h15], by simp [upd], rfl, rfl, (hK.new _).put hK.nobj _, by simp only [put_nobj, new_nobj]; omega, Mat.put (Mat.new hM.out hnb _) hnb _, by simp [Abs.Hid]⟩ ?_
  clear hK hM hnb h3 h13 h14 h15 kno
  rintro m s σ'' ⟨j, rfl, hj, h3, h4, h6, h13, h14, h15, h24, h25, h26, hK, hnb, hM, hno2⟩
  have kno := hK.nobj
  by_cases hlt2 : j < x.body.length
  ·have hget := List.getElem?_eq_getElem hlt2
   obtain ⟨ha, ia, r2, hd2⟩ := EL_PL hb hget
   generalize x.body[j] = a at hd2 hget ha
   have HA : Abs.Hid (x.body[j]? = some a) := hget
   clear hget
   have hpa := List.idxOf_lt_length_of_mem ha
   have hr1 := rowsC_get (B := B) (n := N.length) (k := N.length) hpa
   have hmo := hM.out _ hpa
   have hvl := bvec_len N.length (U (N.idxOf a.pred))
   have hvg := bvec_get (U (N.idxOf a.pred)) hpx
   have hpb : Abs.Hid (pbad N U x.head.pred a = (a.nt && (((N.idxOf a.pred : Nat) : Int) == ((N.idxOf x.head.pred : Nat) : Int) || U (N.idxOf a.pred) (N.idxOf x.head.pred)))) := rfl
   generalize hu : U (N.idxOf a.pred) (N.idxOf x.head.pred) = uu at hvg hpb
   clear hu
   generalize N.idxOf a.pred = pa at hd2 hpa hr1 hmo hvl hvg hpb
   generalize N.idxOf x.head.pred = ph at h6 hvg hpb hpx
   repeat' (first
 |with_reducible first|apply Xa|apply Xb|(refine Xc ?_;intro κ hκ)|(apply hκ.out;clear hκ κ)|apply Xd|apply Xe|apply Xf
 |((with_reducible first|refine Xl ?_ ?_|refine Xk ?_ ?_)<;> intro h hari<;> try exact Xp)
 |refine Xr ?_
 |exact True.intro
 |(apply hκ.out;clear hκ κ))
   all_goals
    first
    | (refine ⟨_, rfl, M0, HI0.out, ?_, (hK.new _).put hK.nobj _⟩
       rw [HU.out, firstN_hit hlt (by rw [hv.out]; exact any_hit _ HA.out (by rw [hpb.out]; simp [*])) hno.out])
    | (refine ⟨x.body.length - (j + 1), by omega, j + 1, rfl, by omega, by simp, (hK.new _).put hK.nobj _, by omega, Mat.put (Mat.new hM.out hnb _) hnb _, ?_⟩
       rw [Abs.Hid, any_take_succ _ HA.out, hno2.out, hpb.out]; simp [*])
  ·have hjl : j = x.body.length := by omega
   subst hjl
   rw [List.take_length] at hno2
   repeat' (first
 |with_reducible first|apply Xa|apply Xb|(refine Xc ?_;intro κ hκ)|(apply hκ.out;clear hκ κ)|apply Xd|apply Xe|apply Xf
 |((with_reducible first|refine Xl ?_ ?_|refine Xk ?_ ?_)<;> intro h hari<;> try exact Xp)
 |refine Xr ?_
 |exact True.intro
 |(apply hκ.out;clear hκ κ))
   exact ⟨l.length - (i + 1), by omega, i + 1, rfl, by omega, by simp, no_step hno.out (by rw [hv.out]; exact hno2.out)⟩
 ·have hil : i = l.length := by omega
  subst hil
  repeat' (first
 |with_reducible first|apply Xa|apply Xb|(refine Xc ?_;intro κ hκ)|(apply hκ.out;clear hκ κ)|apply Xd|apply Xe|apply Xf
 |((with_reducible first|refine Xl ?_ ?_|refine Xk ?_ ?_)<;> intro h hari<;> try exact Xp)
 |refine Xr ?_
 |exact True.intro
 |(apply hκ.out;clear hκ κ))
  first
  | exact ⟨_, rfl, M0, HI0.out, by rw [HU.out, firstN_none hno.out], hK⟩
  | exact ⟨_, rfl, M0, HI0.out, by rw [HU.out, firstN_none hno.out]⟩
end Go.Proofs.YtmoeoppbmhfbpaaGreatDoorB
