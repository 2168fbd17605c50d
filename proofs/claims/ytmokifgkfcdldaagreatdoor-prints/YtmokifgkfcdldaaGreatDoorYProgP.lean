import Derived.Test.YtmokifgkfcdldaaGreatDoorYProgO
/- The program: what uses what. -/
namespace Go.Proofs.YtmokifgkfcdldaaGreatDoorY
open Go.Abs
set_option linter.unusedSimpArgs false
set_option linter.unusedVariables false
set_option maxRecDepth 100000

theorem part_keep {n : Nat} {M W : Nat → Nat → Bool} {m i k : Nat} (h : part n M m i k W) (hv : fw M m i k = M i k) : part n M m i (k + 1) W := by
  intro a b
  rw [h]
  by_cases hc : (a < i ∧ b < n) ∨ (a = i ∧ b < k)
  · rw [if_pos hc, if_pos (by omega)]
  · rw [if_neg hc]
    by_cases hd : (a < i ∧ b < n) ∨ (a = i ∧ b < k + 1)
    · rw [if_pos hd]
      have e1 : a = i := by omega
      have e2 : b = k := by omega
      rw [e1, e2, hv]
    · rw [if_neg hd]
theorem part_skip {n : Nat} {M W : Nat → Nat → Bool} {m i : Nat} (h : part n M m i 0 W) (hv : M i m = false) : part n M m (i + 1) 0 W := by
  intro a b
  rw [h]
  by_cases hc : (a < i ∧ b < n) ∨ (a = i ∧ b < 0)
  · rw [if_pos hc, if_pos (by omega)]
  · rw [if_neg hc]
    by_cases hd : (a < i + 1 ∧ b < n) ∨ (a = i + 1 ∧ b < 0)
    · rw [if_pos hd]
      have e1 : a = i := by omega
      rw [e1]; simp [fw, hv]
    · rw [if_neg hd]

set_option maxHeartbeats 16000000 in
theorem puses_spec (N : List Tx) (l : List RItem) (cs : List AV) (idn idi : Nat) (hB : Bk N l cs) (σ : St) : ACalls Tryz.prog 137 [bookA N idn l idi cs] σ fun r σ' => ∃ idu B M, r = sl idu N.length (rowsC B N.length N.length) ∧ Keep σ σ' ∧ σ.nobj ≤ B ∧ B + N.length ≤ σ'.nobj ∧ Mat B N.length (fwR N.length M N.length) σ' ∧ isOnce N l M := by
  have hN := hB.nm
  refine acalls 49 [.tmp 2] Tryz.func137 rfl (by decide) rfl rfl (Nat.le_of_ble_eq_true rfl) ?_
  repeat' (first
    | with_reducible apply awp_seq
    | with_reducible apply awp_block
    | ((with_reducible refine awp_region_k ?_); intro kont hkont)
    | ((with_reducible refine hkont.out _ _ ?_); clear hkont kont)
    | ((first | ((with_reducible refine gd_go ?_); refine gd_split (fun h => ?_) (fun h => ?_)) | ((with_reducible refine gt_go ?_); refine gt_split (fun h => ?_) (fun h => ?_)) | ((with_reducible refine cond_go ?_); refine awp_cond_split rfl (fun h => ?_) (fun h => ?_))) <;> (try simp only [upd, ↓reduceIte, Nat.reduceEqDiff] at h) <;> (try simp only [B2] at h) <;> (try simp only [*, reduceCtorEq, decide_true, decide_false] at h) <;> (try (have hari := h; simp only [B3] at hari)) <;> (try (first | contradiction | (exfalso; omega) | (exfalso; simp at h; done))) <;> (try simp only [gd_true, gd_false, gt_true, gt_false]))
    | ((with_reducible refine acalls_go ?_); refine ACalls.mono (usesAtOnce_spec N l cs idn idi hB _) ?_; rintro _ _ ⟨idu, B, M0, rfl, hK0, hB0, hnb0, hM0, hI0⟩; (rw [new_nobj] at hB0))
    | with_reducible apply awp_skip
    | with_reducible apply awp_exit
    | with_reducible apply awp_ret
    | (simp (maxSteps := 3000000) (disch := (first | omega | (simp only [B1, *]; omega))) only [↓mapA_nil, ↓mapA_cons, B0, gd_true, gd_false, gt_true, gt_false, aRun, Int.reduceToNat, Value.oneCell', awant, aStep, aq, al, aev, aput, upd, dstOk, cst, cst1, acells, flat, behind, aload, apart1, abin, aconv, aint, bnd, lsp, afill, thenQ, blkQ, retQ, ares, aresL, ares1, initS, nxt, aT, aTk, aU, aOne, kep, rdo, objOf, ↓reduceIte, Nat.reduceLT, Nat.reduceEqDiff, reduceCtorEq, Nat.reduceAdd, Nat.reduceMul, Nat.reduceLeDiff, Value.cells, Tryz.underlying194, Tryz.underlying3, tarr_194, tarr_196, telem_194, telem_196, tsz_196, tsz_4, tsz_54, *])
    | ((with_reducible refine and_go ?_); refine And.intro (by first | exact kept_refl | exact kept_last rfl | exact kept_keep (by assumption)) ?_)
    | (refine hkont.out _ _ ?_; clear hkont kont))
  rename_i σ1
  have HI0 : Abs.Hid (isOnce N l M0) := hI0
  clear hI0
  have hrl := rowsC_len B N.length N.length
  have hKs : Keep σ σ1 := by repeat (first | exact Keep.refl _ | assumption | (refine Keep.put ?_ (by first | omega | (simp only [new_nobj, put_nobj, lay_nobj, *]; omega)) _) | (refine Keep.new ?_ _) | (refine Keep.lay ?_ _) | (refine Keep.trans ?_ (by assumption)))
  clear hK0
  refine awp_loop (fun q s σ' => ∃ m : Nat, q = N.length - m ∧ m ≤ N.length ∧ s 3 = sl idu N.length (rowsC B N.length N.length) ∧ s 10 = sc (.int .i64 N.length) ∧ s 11 = sc (.int .i64 m) ∧ Keep σ σ' ∧ B + N.length ≤ σ'.nobj ∧ Abs.Hid (Mat B N.length (fwR N.length M0 m) σ')) N.length
    ⟨0, by omega, by omega, rfl, rfl, rfl, hKs, hnb0, hM0⟩ ?_
  clear hKs hM0 hnb0
  rintro q s σ' ⟨m, rfl, hm, h3, h10, h11, hK, hnb, hM⟩
  by_cases hlt : m < N.length
  · generalize hMm : fwR N.length M0 m = M at hM
    have HMm : Abs.Hid _ := hMm
    clear hMm
    repeat' (first
    | with_reducible apply awp_seq
    | with_reducible apply awp_block
    | ((with_reducible refine awp_region_k ?_); intro kont hkont)
    | ((with_reducible refine hkont.out _ _ ?_); clear hkont kont)
    | ((first | ((with_reducible refine gd_go ?_); refine gd_split (fun h => ?_) (fun h => ?_)) | ((with_reducible refine gt_go ?_); refine gt_split (fun h => ?_) (fun h => ?_)) | ((with_reducible refine cond_go ?_); refine awp_cond_split rfl (fun h => ?_) (fun h => ?_))) <;> (try simp only [upd, ↓reduceIte, Nat.reduceEqDiff] at h) <;> (try simp only [B2] at h) <;> (try simp only [*, reduceCtorEq, decide_true, decide_false] at h) <;> (try (have hari := h; simp only [B3] at hari)) <;> (try (first | contradiction | (exfalso; omega) | (exfalso; simp at h; done))) <;> (try simp only [gd_true, gd_false, gt_true, gt_false]))
    | with_reducible apply awp_skip
    | with_reducible apply awp_exit
    | with_reducible apply awp_ret
    | (simp (maxSteps := 3000000) (disch := (first | omega | (simp only [B1, *]; omega))) only [↓mapA_nil, ↓mapA_cons, B0, gd_true, gd_false, gt_true, gt_false, aRun, Int.reduceToNat, Value.oneCell', awant, aStep, aq, al, aev, aput, upd, dstOk, cst, cst1, acells, flat, behind, aload, apart1, abin, aconv, aint, bnd, lsp, afill, thenQ, blkQ, retQ, ares, aresL, ares1, initS, nxt, aT, aTk, aU, aOne, kep, rdo, objOf, ↓reduceIte, Nat.reduceLT, Nat.reduceEqDiff, reduceCtorEq, Nat.reduceAdd, Nat.reduceMul, Nat.reduceLeDiff, Value.cells, Tryz.underlying194, Tryz.underlying3, tarr_194, tarr_196, telem_194, telem_196, tsz_196, tsz_4, tsz_54, *])
    | ((with_reducible refine and_go ?_); refine And.intro (by first | exact kept_refl | exact kept_last rfl | exact kept_keep (by assumption)) ?_)
    | (refine hkont.out _ _ ?_; clear hkont kont))
    refine awp_loop (fun q s σ' => ∃ (i : Nat) (W : Nat → Nat → Bool), q = N.length - i ∧ i ≤ N.length ∧ s 3 = sl idu N.length (rowsC B N.length N.length) ∧ s 4 = sc (.int .i64 m) ∧ s 10 = sc (.int .i64 N.length) ∧ s 11 = sc (.int .i64 m) ∧ s 15 = sc (.int .i64 N.length) ∧ s 16 = sc (.int .i64 i) ∧ Keep σ σ' ∧ B + N.length ≤ σ'.nobj ∧ Abs.Hid (Mat B N.length W σ') ∧ Abs.Hid (part N.length M m i 0 W)) N.length
      ⟨0, M, by omega, by omega, by simp [upd, h3], by simp [upd], by simp [upd, h10], by simp [upd, h11], rfl, rfl, hK, hnb, hM, part_zero⟩ ?_
    clear hK hnb hM h3 h10 h11
    rintro q s σ' ⟨i, W, rfl, hi, h3, h4, h10, h11, h15, h16, hK, hnb, hM, hW⟩
    by_cases hlt2 : i < N.length
    · have hr1 := rowsC_get (B := B) (n := N.length) (k := N.length) hlt2
      have hmo := hM.out _ hlt2
      have hvl := bvec_len N.length (W i)
      have hvg := bvec_get (W i) hlt
      obtain ⟨-, v2, -⟩ := part_val hW.out (by omega : 0 < N.length) hlt
      rw [v2] at hvg
      have HV2 : Abs.Hid _ := v2
      clear v2
      repeat' (first
    | with_reducible apply awp_seq
    | with_reducible apply awp_block
    | ((with_reducible refine awp_region_k ?_); intro kont hkont)
    | ((with_reducible refine hkont.out _ _ ?_); clear hkont kont)
    | ((first | ((with_reducible refine gd_go ?_); refine gd_split (fun h => ?_) (fun h => ?_)) | ((with_reducible refine gt_go ?_); refine gt_split (fun h => ?_) (fun h => ?_)) | ((with_reducible refine cond_go ?_); refine awp_cond_split rfl (fun h => ?_) (fun h => ?_))) <;> (try simp only [upd, ↓reduceIte, Nat.reduceEqDiff] at h) <;> (try simp only [B2] at h) <;> (try simp only [*, reduceCtorEq, decide_true, decide_false] at h) <;> (try (have hari := h; simp only [B3] at hari)) <;> (try (first | contradiction | (exfalso; omega) | (exfalso; simp at h; done))) <;> (try simp only [gd_true, gd_false, gt_true, gt_false]))
    | with_reducible apply awp_skip
    | with_reducible apply awp_exit
    | with_reducible apply awp_ret
    | (simp (maxSteps := 3000000) (disch := (first | omega | (simp only [B1, *]; omega))) only [↓mapA_nil, ↓mapA_cons, B0, gd_true, gd_false, gt_true, gt_false, aRun, Int.reduceToNat, Value.oneCell', awant, aStep, aq, al, aev, aput, upd, dstOk, cst, cst1, acells, flat, behind, aload, apart1, abin, aconv, aint, bnd, lsp, afill, thenQ, blkQ, retQ, ares, aresL, ares1, initS, nxt, aT, aTk, aU, aOne, kep, rdo, objOf, ↓reduceIte, Nat.reduceLT, Nat.reduceEqDiff, reduceCtorEq, Nat.reduceAdd, Nat.reduceMul, Nat.reduceLeDiff, Value.cells, Tryz.underlying194, Tryz.underlying3, tarr_194, tarr_196, telem_194, telem_196, tsz_196, tsz_4, tsz_54, *])
    | ((with_reducible refine and_go ?_); refine And.intro (by first | exact kept_refl | exact kept_last rfl | exact kept_keep (by assumption)) ?_)
    | (refine hkont.out _ _ ?_; clear hkont kont))
      · exact ⟨N.length - (i + 1), by omega, i + 1, W, rfl, by omega, by simp, hM, part_skip hW.out h⟩
      · have hMim : M i m = true := h
        refine awp_loop (fun q s σ' => ∃ (k : Nat) (W : Nat → Nat → Bool), q = N.length - k ∧ k ≤ N.length ∧ s 3 = sl idu N.length (rowsC B N.length N.length) ∧ s 4 = sc (.int .i64 m) ∧ s 5 = sc (.int .i64 i) ∧ s 10 = sc (.int .i64 N.length) ∧ s 11 = sc (.int .i64 m) ∧ s 15 = sc (.int .i64 N.length) ∧ s 16 = sc (.int .i64 i) ∧ s 28 = sc (.int .i64 N.length) ∧ s 29 = sc (.int .i64 k) ∧ Keep σ σ' ∧ B + N.length ≤ σ'.nobj ∧ Abs.Hid (Mat B N.length W σ') ∧ Abs.Hid (part N.length M m i k W)) N.length
          ⟨0, W, by omega, by omega, by simp [upd, h3], by simp [upd, h4], by simp [upd], by simp [upd, h10], by simp [upd, h11], by simp [upd, h15], by simp [upd, h16], rfl, rfl, hK, hnb, hM, hW⟩ ?_
        clear hK hnb hM hW h3 h4 h10 h11 h15 h16 hvg hvl hmo HV2 h W
        rintro q s σ' ⟨k, W, rfl, hk, h3, h4, h5, h10, h11, h15, h16, h28, h29, hK, hnb, hM, hW⟩
        by_cases hlt3 : k < N.length
        · obtain ⟨-, -, v3⟩ := part_val hW.out hlt3 hlt
          have hrm := rowsC_get (B := B) (n := N.length) (k := N.length) hlt
          have hmo1 := hM.out _ hlt2
          have hmo2 := hM.out _ hlt
          have hvl1 := bvec_len N.length (W i)
          have hvl2 := bvec_len N.length (W m)
          have hvg := bvec_get (W m) hlt3
          rw [v3] at hvg
          clear v3
          have hms := Mat.set (q := k) hM.out hlt2 true
          have HMS : Abs.Hid _ := hms
          clear hms
          generalize hmk : M m k = vk at hvg
          have HMK : Abs.Hid _ := hmk
          clear hmk
          cases vk with
          | true =>
            repeat' (first
    | with_reducible apply awp_seq
    | with_reducible apply awp_block
    | ((with_reducible refine awp_region_k ?_); intro kont hkont)
    | ((with_reducible refine hkont.out _ _ ?_); clear hkont kont)
    | ((first | ((with_reducible refine gd_go ?_); refine gd_split (fun h => ?_) (fun h => ?_)) | ((with_reducible refine gt_go ?_); refine gt_split (fun h => ?_) (fun h => ?_)) | ((with_reducible refine cond_go ?_); refine awp_cond_split rfl (fun h => ?_) (fun h => ?_))) <;> (try simp only [upd, ↓reduceIte, Nat.reduceEqDiff] at h) <;> (try simp only [B2] at h) <;> (try simp only [*, reduceCtorEq, decide_true, decide_false] at h) <;> (try (have hari := h; simp only [B3] at hari)) <;> (try (first | contradiction | (exfalso; omega) | (exfalso; simp at h; done))) <;> (try simp only [gd_true, gd_false, gt_true, gt_false]))
    | with_reducible apply awp_skip
    | with_reducible apply awp_exit
    | with_reducible apply awp_ret
    | (simp (maxSteps := 3000000) (disch := (first | omega | (simp only [B1, *]; omega))) only [↓mapA_nil, ↓mapA_cons, B0, gd_true, gd_false, gt_true, gt_false, aRun, Int.reduceToNat, Value.oneCell', awant, aStep, aq, al, aev, aput, upd, dstOk, cst, cst1, acells, flat, behind, aload, apart1, abin, aconv, aint, bnd, lsp, afill, thenQ, blkQ, retQ, ares, aresL, ares1, initS, nxt, aT, aTk, aU, aOne, kep, rdo, objOf, ↓reduceIte, Nat.reduceLT, Nat.reduceEqDiff, reduceCtorEq, Nat.reduceAdd, Nat.reduceMul, Nat.reduceLeDiff, Value.cells, Tryz.underlying194, Tryz.underlying3, tarr_194, tarr_196, telem_194, telem_196, tsz_196, tsz_4, tsz_54, *])
    | ((with_reducible refine and_go ?_); refine And.intro (by first | exact kept_refl | exact kept_last rfl | exact kept_keep (by assumption)) ?_)
    | (refine hkont.out _ _ ?_; clear hkont kont))
            exact ⟨N.length - (k + 1), by omega, k + 1, _, rfl, by omega, by simp, hK.put (by omega) _, HMS.out, part_set hW.out (by simp [fw, hMim, HMK.out])⟩
          | false =>
            repeat' (first
    | with_reducible apply awp_seq
    | with_reducible apply awp_block
    | ((with_reducible refine awp_region_k ?_); intro kont hkont)
    | ((with_reducible refine hkont.out _ _ ?_); clear hkont kont)
    | ((first | ((with_reducible refine gd_go ?_); refine gd_split (fun h => ?_) (fun h => ?_)) | ((with_reducible refine gt_go ?_); refine gt_split (fun h => ?_) (fun h => ?_)) | ((with_reducible refine cond_go ?_); refine awp_cond_split rfl (fun h => ?_) (fun h => ?_))) <;> (try simp only [upd, ↓reduceIte, Nat.reduceEqDiff] at h) <;> (try simp only [B2] at h) <;> (try simp only [*, reduceCtorEq, decide_true, decide_false] at h) <;> (try (have hari := h; simp only [B3] at hari)) <;> (try (first | contradiction | (exfalso; omega) | (exfalso; simp at h; done))) <;> (try simp only [gd_true, gd_false, gt_true, gt_false]))
    | with_reducible apply awp_skip
    | with_reducible apply awp_exit
    | with_reducible apply awp_ret
    | (simp (maxSteps := 3000000) (disch := (first | omega | (simp only [B1, *]; omega))) only [↓mapA_nil, ↓mapA_cons, B0, gd_true, gd_false, gt_true, gt_false, aRun, Int.reduceToNat, Value.oneCell', awant, aStep, aq, al, aev, aput, upd, dstOk, cst, cst1, acells, flat, behind, aload, apart1, abin, aconv, aint, bnd, lsp, afill, thenQ, blkQ, retQ, ares, aresL, ares1, initS, nxt, aT, aTk, aU, aOne, kep, rdo, objOf, ↓reduceIte, Nat.reduceLT, Nat.reduceEqDiff, reduceCtorEq, Nat.reduceAdd, Nat.reduceMul, Nat.reduceLeDiff, Value.cells, Tryz.underlying194, Tryz.underlying3, tarr_194, tarr_196, telem_194, telem_196, tsz_196, tsz_4, tsz_54, *])
    | ((with_reducible refine and_go ?_); refine And.intro (by first | exact kept_refl | exact kept_last rfl | exact kept_keep (by assumption)) ?_)
    | (refine hkont.out _ _ ?_; clear hkont kont))
            exact ⟨N.length - (k + 1), by omega, k + 1, W, rfl, by omega, by simp, hM, part_keep hW.out (by simp [fw, HMK.out])⟩
        · have hkl : k = N.length := by omega
          subst hkl
          repeat' (first
    | with_reducible apply awp_seq
    | with_reducible apply awp_block
    | ((with_reducible refine awp_region_k ?_); intro kont hkont)
    | ((with_reducible refine hkont.out _ _ ?_); clear hkont kont)
    | ((first | ((with_reducible refine gd_go ?_); refine gd_split (fun h => ?_) (fun h => ?_)) | ((with_reducible refine gt_go ?_); refine gt_split (fun h => ?_) (fun h => ?_)) | ((with_reducible refine cond_go ?_); refine awp_cond_split rfl (fun h => ?_) (fun h => ?_))) <;> (try simp only [upd, ↓reduceIte, Nat.reduceEqDiff] at h) <;> (try simp only [B2] at h) <;> (try simp only [*, reduceCtorEq, decide_true, decide_false] at h) <;> (try (have hari := h; simp only [B3] at hari)) <;> (try (first | contradiction | (exfalso; omega) | (exfalso; simp at h; done))) <;> (try simp only [gd_true, gd_false, gt_true, gt_false]))
    | with_reducible apply awp_skip
    | with_reducible apply awp_exit
    | with_reducible apply awp_ret
    | (simp (maxSteps := 3000000) (disch := (first | omega | (simp only [B1, *]; omega))) only [↓mapA_nil, ↓mapA_cons, B0, gd_true, gd_false, gt_true, gt_false, aRun, Int.reduceToNat, Value.oneCell', awant, aStep, aq, al, aev, aput, upd, dstOk, cst, cst1, acells, flat, behind, aload, apart1, abin, aconv, aint, bnd, lsp, afill, thenQ, blkQ, retQ, ares, aresL, ares1, initS, nxt, aT, aTk, aU, aOne, kep, rdo, objOf, ↓reduceIte, Nat.reduceLT, Nat.reduceEqDiff, reduceCtorEq, Nat.reduceAdd, Nat.reduceMul, Nat.reduceLeDiff, Value.cells, Tryz.underlying194, Tryz.underlying3, tarr_194, tarr_196, telem_194, telem_196, tsz_196, tsz_4, tsz_54, *])
    | ((with_reducible refine and_go ?_); refine And.intro (by first | exact kept_refl | exact kept_last rfl | exact kept_keep (by assumption)) ?_)
    | (refine hkont.out _ _ ?_; clear hkont kont))
          exact ⟨N.length - (i + 1), by omega, i + 1, W, rfl, by omega, by simp, hM, part_row hW.out⟩
    · have hil : i = N.length := by omega
      subst hil
      repeat' (first
    | with_reducible apply awp_seq
    | with_reducible apply awp_block
    | ((with_reducible refine awp_region_k ?_); intro kont hkont)
    | ((with_reducible refine hkont.out _ _ ?_); clear hkont kont)
    | ((first | ((with_reducible refine gd_go ?_); refine gd_split (fun h => ?_) (fun h => ?_)) | ((with_reducible refine gt_go ?_); refine gt_split (fun h => ?_) (fun h => ?_)) | ((with_reducible refine cond_go ?_); refine awp_cond_split rfl (fun h => ?_) (fun h => ?_))) <;> (try simp only [upd, ↓reduceIte, Nat.reduceEqDiff] at h) <;> (try simp only [B2] at h) <;> (try simp only [*, reduceCtorEq, decide_true, decide_false] at h) <;> (try (have hari := h; simp only [B3] at hari)) <;> (try (first | contradiction | (exfalso; omega) | (exfalso; simp at h; done))) <;> (try simp only [gd_true, gd_false, gt_true, gt_false]))
    | with_reducible apply awp_skip
    | with_reducible apply awp_exit
    | with_reducible apply awp_ret
    | (simp (maxSteps := 3000000) (disch := (first | omega | (simp only [B1, *]; omega))) only [↓mapA_nil, ↓mapA_cons, B0, gd_true, gd_false, gt_true, gt_false, aRun, Int.reduceToNat, Value.oneCell', awant, aStep, aq, al, aev, aput, upd, dstOk, cst, cst1, acells, flat, behind, aload, apart1, abin, aconv, aint, bnd, lsp, afill, thenQ, blkQ, retQ, ares, aresL, ares1, initS, nxt, aT, aTk, aU, aOne, kep, rdo, objOf, ↓reduceIte, Nat.reduceLT, Nat.reduceEqDiff, reduceCtorEq, Nat.reduceAdd, Nat.reduceMul, Nat.reduceLeDiff, Value.cells, Tryz.underlying194, Tryz.underlying3, tarr_194, tarr_196, telem_194, telem_196, tsz_196, tsz_4, tsz_54, *])
    | ((with_reducible refine and_go ?_); refine And.intro (by first | exact kept_refl | exact kept_last rfl | exact kept_keep (by assumption)) ?_)
    | (refine hkont.out _ _ ?_; clear hkont kont))
      refine ⟨N.length - (m + 1), by omega, m + 1, rfl, by omega, by simp, ?_⟩
      rw [Abs.Hid, show fwR N.length M0 (m + 1) = W by rw [part_all hW.out, ← HMm.out]; rfl]
      exact hM.out
  · have hml : m = N.length := by omega
    subst hml
    repeat' (first
    | with_reducible apply awp_seq
    | with_reducible apply awp_block
    | ((with_reducible refine awp_region_k ?_); intro kont hkont)
    | ((with_reducible refine hkont.out _ _ ?_); clear hkont kont)
    | ((first | ((with_reducible refine gd_go ?_); refine gd_split (fun h => ?_) (fun h => ?_)) | ((with_reducible refine gt_go ?_); refine gt_split (fun h => ?_) (fun h => ?_)) | ((with_reducible refine cond_go ?_); refine awp_cond_split rfl (fun h => ?_) (fun h => ?_))) <;> (try simp only [upd, ↓reduceIte, Nat.reduceEqDiff] at h) <;> (try simp only [B2] at h) <;> (try simp only [*, reduceCtorEq, decide_true, decide_false] at h) <;> (try (have hari := h; simp only [B3] at hari)) <;> (try (first | contradiction | (exfalso; omega) | (exfalso; simp at h; done))) <;> (try simp only [gd_true, gd_false, gt_true, gt_false]))
    | with_reducible apply awp_skip
    | with_reducible apply awp_exit
    | with_reducible apply awp_ret
    | (simp (maxSteps := 3000000) (disch := (first | omega | (simp only [B1, *]; omega))) only [↓mapA_nil, ↓mapA_cons, B0, gd_true, gd_false, gt_true, gt_false, aRun, Int.reduceToNat, Value.oneCell', awant, aStep, aq, al, aev, aput, upd, dstOk, cst, cst1, acells, flat, behind, aload, apart1, abin, aconv, aint, bnd, lsp, afill, thenQ, blkQ, retQ, ares, aresL, ares1, initS, nxt, aT, aTk, aU, aOne, kep, rdo, objOf, ↓reduceIte, Nat.reduceLT, Nat.reduceEqDiff, reduceCtorEq, Nat.reduceAdd, Nat.reduceMul, Nat.reduceLeDiff, Value.cells, Tryz.underlying194, Tryz.underlying3, tarr_194, tarr_196, telem_194, telem_196, tsz_196, tsz_4, tsz_54, *])
    | ((with_reducible refine and_go ?_); refine And.intro (by first | exact kept_refl | exact kept_last rfl | exact kept_keep (by assumption)) ?_)
    | (refine hkont.out _ _ ?_; clear hkont kont))
    first
    | exact ⟨_, rfl, idu, B, M0, rfl, hK, by omega, hnb, hM.out, HI0.out⟩
    | exact ⟨_, rfl, idu, B, M0, rfl, by omega, hnb, hM.out, HI0.out⟩
end Go.Proofs.YtmokifgkfcdldaaGreatDoorY
