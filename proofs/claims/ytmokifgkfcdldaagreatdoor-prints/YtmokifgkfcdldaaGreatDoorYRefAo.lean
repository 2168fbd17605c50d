import Derived.Test.YtmokifgkfcdldaaGreatDoorYRefA
namespace Go.Proofs.YtmokifgkfcdldaaGreatDoorY
open Go.Abs
set_option linter.unusedSimpArgs false
set_option linter.unusedVariables false
set_option maxRecDepth 100000

set_option maxHeartbeats 4000000 in
theorem outer_spec (o : Nat) (X : Scan) (hX : X.small) (c : Int) (σ : St) (h : σ.obj o = encScan X) :
    ACalls Tryz.prog 147 [ptr o 0, sc (.int .u8 c)] σ fun x σ' => x = sc (.bool (outerF X c).2) ∧ σ'.obj o = encScan (outerF X c).1 ∧ KeepX o σ σ' := by
  obtain ⟨b1, b2, b3, b4, b5, b6, b7, b8, b9, b10⟩ := hX
  obtain ⟨st, items, letters, digits, terms, lits, head⟩ := X
  unfold encScan at *
  simp only at *
  refine acalls 154 [.tmp 4] Tryz.func147 rfl (by decide) rfl rfl (Nat.le_of_ble_eq_true rfl) ?_
  repeat' (first
    | with_reducible apply awp_seq
    | with_reducible apply awp_block
    | ((with_reducible refine awp_region_k ?_); intro kont hkont)
    | ((with_reducible refine hkont.out _ _ ?_); clear hkont kont)
    | ((first | ((with_reducible refine gd_go ?_); refine gd_split (fun h => ?_) (fun h => ?_)) | ((with_reducible refine gt_go ?_); refine gt_split (fun h => ?_) (fun h => ?_)) | ((with_reducible refine cond_go ?_); refine awp_cond_split rfl (fun h => ?_) (fun h => ?_))) <;> (try simp only [upd, ↓reduceIte, Nat.reduceEqDiff] at h) <;> (try simp only [B2] at h) <;> (try simp only [*, reduceCtorEq, decide_true, decide_false] at h) <;> (try (have hari := h; simp only [B3] at hari)) <;> (try (first | contradiction | (exfalso; omega) | (exfalso; simp at h; done))) <;> (try simp only [gd_true, gd_false, gt_true, gt_false]))
    | ((with_reducible refine acalls_go ?_); refine ACalls.mono (small_spec _ _) ?_; rintro _ _ ⟨rfl, rfl⟩)
    | ((with_reducible refine acalls_go ?_); refine ACalls.mono (to_spec _ _ _ _ _ (by first | assumption | (simp only [put_same]; rfl))) ?_; rintro _ _ ⟨rfl, rfl⟩)
    | with_reducible apply awp_skip
    | with_reducible apply awp_exit
    | with_reducible apply awp_ret
    | (simp (maxSteps := 3000000) (disch := (first | omega | (simp only [B1, *]; omega))) only [↓mapA_nil, ↓mapA_cons, B0, gd_true, gd_false, gt_true, gt_false, aRun, Int.reduceToNat, Value.oneCell', awant, aStep, aq, al, aev, aput, upd, dstOk, cst, cst1, acells, flat, behind, aload, apart1, abin, aconv, aint, bnd, lsp, afill, thenQ, blkQ, retQ, ares, aresL, ares1, initS, nxt, aT, aTk, aU, aOne, kep, rdo, objOf, ↓reduceIte, Nat.reduceLT, Nat.reduceEqDiff, reduceCtorEq, Nat.reduceAdd, Nat.reduceMul, Nat.reduceLeDiff, Value.cells, Tryz.underlying3, Tryz.underlying5, tfld_212_0, tfld_212_1, tfld_212_2, tfld_212_5, tfld_212_6, tsz_3, tsz_4, *])
    | ((with_reducible refine and_go ?_); refine And.intro (by first | exact kept_refl | exact kept_last rfl | exact kept_keep (by assumption)) ?_)
    | (refine hkont.out _ _ ?_; clear hkont kont))
  all_goals exact ⟨_, rfl, by simp only [outerF, *, ↓reduceIte, Bool.false_eq_true, and_self, or_self, true_and, and_true, true_or, or_true, false_or, or_false, and_false, false_and, reduceCtorEq, if_true, if_false, decide_true, decide_false, Bool.not_true, Bool.not_false], by simp only [outerF, *, ↓reduceIte, Bool.false_eq_true, and_self, or_self, true_and, and_true, true_or, or_true, false_or, or_false, and_false, false_and, reduceCtorEq, if_true, if_false, decide_true, decide_false, Bool.not_true, Bool.not_false], by repeat (first | exact KeepX.refl _ _ | apply KeepX.put)⟩
end Go.Proofs.YtmokifgkfcdldaaGreatDoorY
