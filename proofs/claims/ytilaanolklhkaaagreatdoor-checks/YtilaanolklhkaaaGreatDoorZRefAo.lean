import Derived.Test.YtilaanolklhkaaaGreatDoorZRefA
namespace Go.Proofs.YtilaanolklhkaaaGreatDoorZ
open Go.Abs
set_option linter.unusedSimpArgs false
set_option linter.unusedVariables false
set_option maxRecDepth 100000

set_option maxHeartbeats 4000000 in
theorem outer_spec (o : Nat) (X : Scan) (hX : X.small) (c : Int) (σ : St) (h : σ.obj o = encScan X) :
    ACalls Tryz.prog 131 [ptr o 0, sc (.int .u8 c)] σ fun x σ' => x = sc (.bool (outerF X c).2) ∧ σ'.obj o = encScan (outerF X c).1 ∧ KeepX o σ σ' := by
  obtain ⟨b1, b2, b3, b4, b5, b6, b7, b8, b9, b10⟩ := hX
  obtain ⟨st, items, letters, digits, terms, lits, head⟩ := X
  unfold encScan at *
  simp only at *
  refine acalls 154 [.tmp 4] Tryz.func131 rfl (by decide) rfl rfl (Nat.le_of_ble_eq_true rfl) ?_
  repeat' (first
    | with_reducible apply awp_seq
    | with_reducible apply awp_block
    | ((with_reducible refine awp_region_k ?_); intro kont hkont)
    | ((with_reducible refine hkont.out _ _ ?_); clear hkont kont)
    | ((first | ((with_reducible refine gd_go ?_); refine gd_split (fun h => ?_) (fun h => ?_)) | ((with_reducible refine gt_go ?_); refine gt_split (fun h => ?_) (fun h => ?_)) | ((with_reducible refine cond_go ?_); refine awp_cond_split rfl (fun h => ?_) (fun h => ?_))) <;> (try simp only [upd, ↓reduceIte, Nat.reduceEqDiff] at h) <;> (try simp only [Bool.not_eq_true', Bool.not_eq_false'] at h) <;> (try simp only [*, reduceCtorEq, decide_true, decide_false] at h) <;> (try (have hari := h; simp only [decide_eq_true_eq, decide_eq_false_iff_not, Int.not_lt, Int.not_le] at hari)) <;> (try (first | contradiction | (exfalso; omega) | (exfalso; simp at h; done))) <;> (try simp only [Abs.gd_true, Abs.gd_false, Abs.gt_true, Abs.gt_false]))
    | ((with_reducible refine aapp_go ?_); refine aApp_own (by first | fail) (by assumption) (by assumption) (by decide) (by rfl) (by first | assumption | (simp; done) | (simp; omega) | omega) (by rfl) (by rfl) (by decide) (by omega) (by omega) ?_; intro idn σn hOn hKn eobj enobj ever entop)
    | ((with_reducible refine acalls_go ?_); refine ACalls.mono (small_spec _ _) ?_; rintro _ _ ⟨rfl, rfl⟩)
    | ((with_reducible refine acalls_go ?_); refine ACalls.mono (to_spec _ _ _ _ _ (by first | assumption | (simp only [put_same]; rfl))) ?_; rintro _ _ ⟨rfl, rfl⟩)
    | with_reducible apply awp_skip
    | with_reducible apply awp_exit
    | with_reducible apply awp_ret
    | (simp (maxSteps := 3000000) (disch := (first | omega | (simp only [Abs.new_nobj, Abs.put_nobj, Abs.lay_nobj, Abs.bs_size, List.length_cons, List.length_nil, *]; omega))) only [↓Abs.mapA_nil, ↓Abs.mapA_cons, Abs.put_ne', Abs.aRun, implies_true, Abs.map_zrep, List.head?_drop, Nat.mul_one, List.length_map, Nat.zero_mul, Nat.zero_add, Option.map_none, Int.reduceToNat, Nat.add_one_sub_one, Nat.sub_zero, List.take_length, List.all_cons, List.all_nil, Value.oneCell', Abs.awant, Abs.aStep, Abs.aq, Abs.al, Abs.aev, Abs.aput, Abs.upd, Abs.dstOk, Abs.cst, Abs.cst1, Abs.acells, Abs.flat, Abs.behind, Abs.aload, Abs.apart1, Abs.abin, Abs.aconv, Abs.aint, Abs.bnd, Abs.lsp, Abs.afill, Abs.thenQ, Abs.blkQ, Abs.retQ, Abs.ares, Abs.aresL, Abs.ares1, Abs.initS, Abs.gd_true, Abs.gd_false, Abs.nxt, Abs.aT, Abs.aTk, Abs.aU, Abs.aOne, Abs.kep, Abs.gt_true, Abs.gt_false, Abs.rdo, Abs.objOf, Option.map_some, Option.bind_some, Option.bind_none, List.getElem?_cons_zero, List.getElem?_cons_succ, List.getElem?_toArray, List.map_cons, List.map_nil, List.toList_toArray, ↓reduceIte, Nat.reduceLT, Nat.reduceEqDiff, decide_true, decide_false, Bool.true_and, Bool.and_true, beq_self_eq_true, beq_true, beq_false, Bool.not_false, Bool.not_true, ge_iff_le, gt_iff_lt, reduceCtorEq, true_and, and_true, List.getD_cons_zero, List.getD_cons_succ, List.length_cons, List.length_nil, List.drop_succ_cons, List.drop_zero, List.take_succ_cons, List.take_zero, List.head?_cons, Nat.reduceAdd, Nat.reduceMul, Nat.reduceLeDiff, Option.isSome_some, if_true, if_false, Bool.false_eq_true, Int.toNat_natCast, Value.cells, Abs.new_same, Abs.new_at, Abs.new_lt, Abs.new_nobj, Abs.new_top, Abs.new_ntop, Abs.put_same, Abs.put_ne, Abs.put_nobj, Abs.put_top, Abs.put_ntop, Abs.lay_obj, Abs.lay_nobj, Abs.lay_ntop, Abs.bs_size, Abs.bs_get, Abs.bs_toList, Abs.bs_extract, Abs.bs_append, Abs.bs_nil, List.set_cons_zero, List.set_cons_succ, List.cons_append, List.nil_append, List.append_nil, List.replicate_succ, List.replicate_zero, List.flatten_cons, List.flatten_nil, ne_eq, not_true_eq_false, false_or, or_false, Nat.lt_irrefl, gt_iff_lt, Int.natCast_nonneg, Abs.i64w, Abs.ifp, Abs.tfld_200_0, Abs.tfld_200_1, Abs.tfld_200_2, Abs.tfld_200_5, Abs.tfld_200_6, Abs.tsz_3, Abs.tsz_4, Tryz.underlying3, Tryz.underlying5, *])
    | ((with_reducible refine and_go ?_); refine And.intro (by first | exact kept_refl | exact kept_last rfl | exact kept_keep (by assumption)) ?_)
    | (refine hkont.out _ _ ?_; clear hkont kont))
  all_goals exact ⟨_, rfl, by simp only [outerF, *, ↓reduceIte, Bool.false_eq_true, and_self, or_self, true_and, and_true, true_or, or_true, false_or, or_false, and_false, false_and, reduceCtorEq, if_true, if_false, decide_true, decide_false, Bool.not_true, Bool.not_false], by simp only [outerF, *, ↓reduceIte, Bool.false_eq_true, and_self, or_self, true_and, and_true, true_or, or_true, false_or, or_false, and_false, false_and, reduceCtorEq, if_true, if_false, decide_true, decide_false, Bool.not_true, Bool.not_false], by repeat (first | exact KeepX.refl _ _ | apply KeepX.put)⟩
end Go.Proofs.YtilaanolklhkaaaGreatDoorZ
