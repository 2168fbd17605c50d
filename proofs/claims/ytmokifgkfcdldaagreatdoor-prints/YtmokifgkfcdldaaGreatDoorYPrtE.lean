import Derived.Test.YtmokifgkfcdldaaGreatDoorYPrtD
/- The program: an atom with other variables. -/
namespace Go.Proofs.YtmokifgkfcdldaaGreatDoorY
open Go.Abs
set_option linter.unusedSimpArgs false
set_option linter.unusedVariables false
set_option maxRecDepth 100000

def rcell (l : List Tx) (t : Tx) : List AV := [sc (.bool (variableB t)), sc (.int .i64 (if variableB t = true then whichL l t else (encT t).2))]
def rcells (l : List Tx) (ts : List Tx) : List AV := ts.flatMap (rcell l)
theorem rcells_len (l ts : List Tx) : (rcells l ts).length = ts.length * 2 := by
  induction ts with
  | nil => rfl
  | cons a ts ih => unfold rcells at *; rw [List.flatMap_cons, List.length_append, ih]; simp [rcell]; omega
theorem rcells_snoc (l ts : List Tx) (x : Tx) : rcells l (ts ++ [x]) = rcells l ts ++ rcell l x := by simp [rcells]

set_option maxHeartbeats 16000000 in
theorem renamed_spec (l : List Tx) (ido : Nat) (kp : Int) (ids : Nat) (a : RAtom) (hl : l.length ≤ 10000000) (hL : VL l) (hV : VA a) (hn : a.terms.length ≤ 1000) (σ : St) :
    ACalls Tryz.prog 113 [ag [sc (.int .i64 kp), sl ids a.terms.length (tcells a.terms)], sl ido l.length (l.map encI)] σ fun r σ' => ∃ id, r = ag [sc (.int .i64 kp), sl id a.terms.length (rcells l a.terms)] ∧ Keep σ σ' := by
  have htl := tcells_len a.terms
  have HVA : Abs.Hid (VA a) := hV
  clear hV
  refine acalls 33 [.cell 4 92] Tryz.func113 rfl (by decide) rfl rfl (Nat.le_of_ble_eq_true rfl) ?_
  repeat' (first
    | with_reducible apply awp_seq
    | with_reducible apply awp_block
    | ((with_reducible refine awp_region_k ?_); intro kont hkont)
    | ((with_reducible refine hkont.out _ _ ?_); clear hkont kont)
    | ((first | ((with_reducible refine gd_go ?_); refine gd_split (fun h => ?_) (fun h => ?_)) | ((with_reducible refine gt_go ?_); refine gt_split (fun h => ?_) (fun h => ?_)) | ((with_reducible refine cond_go ?_); refine awp_cond_split rfl (fun h => ?_) (fun h => ?_))) <;> (try simp only [upd, ↓reduceIte, Nat.reduceEqDiff] at h) <;> (try simp only [B2] at h) <;> (try simp only [*, reduceCtorEq, decide_true, decide_false] at h) <;> (try (have hari := h; simp only [B3] at hari)) <;> (try (first | contradiction | (exfalso; omega) | (exfalso; simp at h; done))) <;> (try simp only [gd_true, gd_false, gt_true, gt_false]))
    | ((with_reducible refine aapp_go ?_); refine aApp_own (by first | exact tez_90) (by assumption) (by assumption) (by decide) (by rfl) (by first | assumption | (simp; done) | (simp; omega) | omega) (by rfl) (by rfl) (by decide) (by omega) (by omega) ?_; intro idn σn hOn hKn eobj enobj ever entop)
    | with_reducible apply awp_skip
    | with_reducible apply awp_exit
    | with_reducible apply awp_ret
    | (simp (maxSteps := 3000000) (disch := (first | omega | (simp only [B1, *]; omega))) only [↓mapA_nil, ↓mapA_cons, B0, gd_true, gd_false, gt_true, gt_false, aRun, Int.reduceToNat, Value.oneCell', awant, aStep, aq, al, aev, aput, upd, dstOk, cst, cst1, acells, flat, behind, aload, apart1, abin, aconv, aint, bnd, lsp, afill, thenQ, blkQ, retQ, ares, aresL, ares1, initS, nxt, aT, aTk, aU, aOne, kep, rdo, objOf, ↓reduceIte, Nat.reduceLT, Nat.reduceEqDiff, reduceCtorEq, Nat.reduceAdd, Nat.reduceMul, Nat.reduceLeDiff, Value.cells, Tryz.underlying3, Tryz.underlying90, tarr_90, telem_90, tez_90, tfld_134_0, tfld_134_1, tfld_92_0, tfld_92_1, tstr_92, tsz_134, tsz_3, tsz_4, tsz_90, tsz_92, tzero_134, tzero_92, *])
    | ((with_reducible refine and_go ?_); refine And.intro (by first | exact kept_refl | exact kept_last rfl | exact kept_keep (by assumption)) ?_)
    | (refine hkont.out _ _ ?_; clear hkont kont))
  refine awp_loop (fun m s σ' => ∃ (k i3 : Nat) (xs : List AV), m = a.terms.length - k ∧ k ≤ a.terms.length ∧ s 1 = sl ido l.length (l.map encI) ∧ s 4 = ptr (σ.nobj + 1) 0 ∧ s 5 = ptr (σ.nobj + 2) 0 ∧ s 12 = sl ids a.terms.length (tcells a.terms) ∧ s 13 = sc (.int .i64 a.terms.length) ∧ s 14 = sc (.int .i64 k) ∧ Keep σ σ' ∧ σ.nobj + 2 < σ'.nobj ∧ σ'.obj (σ.nobj + 1) = [sc (.int .i64 0), nilS] ∧ σ'.obj (σ.nobj + 2) = [sc (.int .i64 kp), sl i3 k xs] ∧ Own σ σ' i3 k ∧ xs.length = k * 2 ∧ Abs.Hid (xs = rcells l (a.terms.take k))) a.terms.length
    ⟨0, 1, [], by omega, by omega, by simp [upd, initS], by simp [upd], by simp [upd], by simp [upd], by simp [upd], rfl, ?_, ?_, ?_, ?_, Own.nil _ _, by simp, by simp [Abs.Hid, rcells]⟩ ?_
  · exact ((((Keep.refl σ).new _).new _).new _).put (by omega) _
  · simp only [put_nobj, new_nobj]; omega
  · rw [put_ne (by omega), new_lt (by simp only [new_nobj]; omega), new_at (by rw [new_nobj]; omega) (by rw [new_nobj]; omega)]
  · rw [show σ.nobj + 2 = σ.nobj + 1 + 1 by omega, put_same]
  rintro m s σ' ⟨k, i3, xs, rfl, hk, h1, h4, h5, h12, h13, h14, hK, hno, hob1, hob2, hO, hxl, hX⟩
  have kno := hK.nobj
  by_cases hlt : k < a.terms.length
  · have hget := List.getElem?_eq_getElem hlt
    have hvw := HVA.out a.terms[k] (List.getElem_mem hlt)
    obtain ⟨r2, hd2⟩ := tcells_get hget
    generalize a.terms[k] = w at hd2 hget hvw
    have hstep : Abs.Hid (rcells l (a.terms.take (k + 1)) = xs ++ rcell l w) := by
      rw [Abs.Hid, List.take_add_one, hget, Option.toList_some, rcells_snoc, ← hX.out]
    clear hget
    have h1w := enc_var hvw
    cases hv : variableB w with
    | true =>
      rw [hv] at h1w
      rw [h1w] at hd2
      have hP := fun σ => placeOf_spec l ido w hl hL hvw hv σ
      have hrc : Abs.Hid (rcell l w = [sc (.bool true), sc (.int .i64 (whichL l w))]) := by simp [Abs.Hid, rcell, hv]
      generalize (encT w).2 = w2 at hd2 hP
      repeat' (first
    | with_reducible apply awp_seq
    | with_reducible apply awp_block
    | ((with_reducible refine awp_region_k ?_); intro kont hkont)
    | ((with_reducible refine hkont.out _ _ ?_); clear hkont kont)
    | ((first | ((with_reducible refine gd_go ?_); refine gd_split (fun h => ?_) (fun h => ?_)) | ((with_reducible refine gt_go ?_); refine gt_split (fun h => ?_) (fun h => ?_)) | ((with_reducible refine cond_go ?_); refine awp_cond_split rfl (fun h => ?_) (fun h => ?_))) <;> (try simp only [upd, ↓reduceIte, Nat.reduceEqDiff] at h) <;> (try simp only [B2] at h) <;> (try simp only [*, reduceCtorEq, decide_true, decide_false] at h) <;> (try (have hari := h; simp only [B3] at hari)) <;> (try (first | contradiction | (exfalso; omega) | (exfalso; simp at h; done))) <;> (try simp only [gd_true, gd_false, gt_true, gt_false]))
    | ((with_reducible refine aapp_go ?_); refine aApp_own (by first | exact tez_90) (by assumption) (by assumption) (by decide) (by rfl) (by first | assumption | (simp; done) | (simp; omega) | omega) (by rfl) (by rfl) (by decide) (by omega) (by omega) ?_; intro idn σn hOn hKn eobj enobj ever entop)
    | ((with_reducible refine acalls_go ?_); refine ACalls.mono (hP _) ?_; rintro _ _ ⟨rfl, rfl⟩)
    | with_reducible apply awp_skip
    | with_reducible apply awp_exit
    | with_reducible apply awp_ret
    | (simp (maxSteps := 3000000) (disch := (first | omega | (simp only [B1, *]; omega))) only [↓mapA_nil, ↓mapA_cons, B0, gd_true, gd_false, gt_true, gt_false, aRun, Int.reduceToNat, Value.oneCell', awant, aStep, aq, al, aev, aput, upd, dstOk, cst, cst1, acells, flat, behind, aload, apart1, abin, aconv, aint, bnd, lsp, afill, thenQ, blkQ, retQ, ares, aresL, ares1, initS, nxt, aT, aTk, aU, aOne, kep, rdo, objOf, ↓reduceIte, Nat.reduceLT, Nat.reduceEqDiff, reduceCtorEq, Nat.reduceAdd, Nat.reduceMul, Nat.reduceLeDiff, Value.cells, Tryz.underlying3, Tryz.underlying90, tarr_90, telem_90, tez_90, tfld_134_0, tfld_134_1, tfld_92_0, tfld_92_1, tstr_92, tsz_134, tsz_3, tsz_4, tsz_90, tsz_92, tzero_134, tzero_92, *])
    | ((with_reducible refine and_go ?_); refine And.intro (by first | exact kept_refl | exact kept_last rfl | exact kept_keep (by assumption)) ?_)
    | (refine hkont.out _ _ ?_; clear hkont kont))
      have hKx : Keep σ (((σ'.new [sc (.bool false), sc (.int .i64 0)]).put σ'.nobj [sc (.bool true), sc (.int .i64 w2)]).put σ'.nobj [sc (.bool true), sc (.int .i64 (whichL l w))]) := ((hK.new _).put hK.nobj _).put hK.nobj _
      refine aApp_own (by first | exact tez_90) hKx (Own.put (Own.put (Own.new hO _) _ _) _ _) (by decide) (by rfl) hxl (by rfl) (by rfl) (by decide) (by omega) (by omega) ?_
      intro idn σn hOn hKn eobj enobj ever entop
      simp only [put_nobj, new_nobj] at enobj
      simp (maxSteps := 3000000) (disch := (first | omega | (simp only [B1, *]; omega))) only [↓mapA_nil, ↓mapA_cons, B0, gd_true, gd_false, gt_true, gt_false, aRun, Int.reduceToNat, Value.oneCell', awant, aStep, aq, al, aev, aput, upd, dstOk, cst, cst1, acells, flat, behind, aload, apart1, abin, aconv, aint, bnd, lsp, afill, thenQ, blkQ, retQ, ares, aresL, ares1, initS, nxt, aT, aTk, aU, aOne, kep, rdo, objOf, ↓reduceIte, Nat.reduceLT, Nat.reduceEqDiff, reduceCtorEq, Nat.reduceAdd, Nat.reduceMul, Nat.reduceLeDiff, Value.cells, Tryz.underlying3, Tryz.underlying90, tarr_90, telem_90, tez_90, tfld_134_0, tfld_134_1, tfld_92_0, tfld_92_1, tstr_92, tsz_134, tsz_3, tsz_4, tsz_90, tsz_92, tzero_134, tzero_92, *]
      repeat' (first
    | with_reducible apply awp_seq
    | with_reducible apply awp_block
    | ((with_reducible refine awp_region_k ?_); intro kont hkont)
    | ((with_reducible refine hkont.out _ _ ?_); clear hkont kont)
    | ((first | ((with_reducible refine gd_go ?_); refine gd_split (fun h => ?_) (fun h => ?_)) | ((with_reducible refine gt_go ?_); refine gt_split (fun h => ?_) (fun h => ?_)) | ((with_reducible refine cond_go ?_); refine awp_cond_split rfl (fun h => ?_) (fun h => ?_))) <;> (try simp only [upd, ↓reduceIte, Nat.reduceEqDiff] at h) <;> (try simp only [B2] at h) <;> (try simp only [*, reduceCtorEq, decide_true, decide_false] at h) <;> (try (have hari := h; simp only [B3] at hari)) <;> (try (first | contradiction | (exfalso; omega) | (exfalso; simp at h; done))) <;> (try simp only [gd_true, gd_false, gt_true, gt_false]))
    | ((with_reducible refine aapp_go ?_); refine aApp_own (by first | exact tez_90) (by assumption) (by assumption) (by decide) (by rfl) (by first | assumption | (simp; done) | (simp; omega) | omega) (by rfl) (by rfl) (by decide) (by omega) (by omega) ?_; intro idn σn hOn hKn eobj enobj ever entop)
    | with_reducible apply awp_skip
    | with_reducible apply awp_exit
    | with_reducible apply awp_ret
    | (simp (maxSteps := 3000000) (disch := (first | omega | (simp only [B1, *]; omega))) only [↓mapA_nil, ↓mapA_cons, B0, gd_true, gd_false, gt_true, gt_false, aRun, Int.reduceToNat, Value.oneCell', awant, aStep, aq, al, aev, aput, upd, dstOk, cst, cst1, acells, flat, behind, aload, apart1, abin, aconv, aint, bnd, lsp, afill, thenQ, blkQ, retQ, ares, aresL, ares1, initS, nxt, aT, aTk, aU, aOne, kep, rdo, objOf, ↓reduceIte, Nat.reduceLT, Nat.reduceEqDiff, reduceCtorEq, Nat.reduceAdd, Nat.reduceMul, Nat.reduceLeDiff, Value.cells, Tryz.underlying3, Tryz.underlying90, tarr_90, telem_90, tez_90, tfld_134_0, tfld_134_1, tfld_92_0, tfld_92_1, tstr_92, tsz_134, tsz_3, tsz_4, tsz_90, tsz_92, tzero_134, tzero_92, *])
    | ((with_reducible refine and_go ?_); refine And.intro (by first | exact kept_refl | exact kept_last rfl | exact kept_keep (by assumption)) ?_)
    | (refine hkont.out _ _ ?_; clear hkont kont))
      refine ⟨a.terms.length - (k + 1), by omega, k + 1, idn, _, rfl, by omega, by simp, hKn.put (by omega) _, by omega, rfl, Own.put hOn _ _, by simp; omega, ?_⟩
      rw [Abs.Hid, hstep.out, hrc.out]
    | false =>
      rw [hv] at h1w
      rw [h1w] at hd2
      have hrc : Abs.Hid (rcell l w = [sc (.bool false), sc (.int .i64 (encT w).2)]) := by simp [Abs.Hid, rcell, hv]
      generalize (encT w).2 = w2 at hd2 hrc
      repeat' (first
    | with_reducible apply awp_seq
    | with_reducible apply awp_block
    | ((with_reducible refine awp_region_k ?_); intro kont hkont)
    | ((with_reducible refine hkont.out _ _ ?_); clear hkont kont)
    | ((first | ((with_reducible refine gd_go ?_); refine gd_split (fun h => ?_) (fun h => ?_)) | ((with_reducible refine gt_go ?_); refine gt_split (fun h => ?_) (fun h => ?_)) | ((with_reducible refine cond_go ?_); refine awp_cond_split rfl (fun h => ?_) (fun h => ?_))) <;> (try simp only [upd, ↓reduceIte, Nat.reduceEqDiff] at h) <;> (try simp only [B2] at h) <;> (try simp only [*, reduceCtorEq, decide_true, decide_false] at h) <;> (try (have hari := h; simp only [B3] at hari)) <;> (try (first | contradiction | (exfalso; omega) | (exfalso; simp at h; done))) <;> (try simp only [gd_true, gd_false, gt_true, gt_false]))
    | ((with_reducible refine aapp_go ?_); refine aApp_own (by first | exact tez_90) (by assumption) (by assumption) (by decide) (by rfl) (by first | assumption | (simp; done) | (simp; omega) | omega) (by rfl) (by rfl) (by decide) (by omega) (by omega) ?_; intro idn σn hOn hKn eobj enobj ever entop)
    | with_reducible apply awp_skip
    | with_reducible apply awp_exit
    | with_reducible apply awp_ret
    | (simp (maxSteps := 3000000) (disch := (first | omega | (simp only [B1, *]; omega))) only [↓mapA_nil, ↓mapA_cons, B0, gd_true, gd_false, gt_true, gt_false, aRun, Int.reduceToNat, Value.oneCell', awant, aStep, aq, al, aev, aput, upd, dstOk, cst, cst1, acells, flat, behind, aload, apart1, abin, aconv, aint, bnd, lsp, afill, thenQ, blkQ, retQ, ares, aresL, ares1, initS, nxt, aT, aTk, aU, aOne, kep, rdo, objOf, ↓reduceIte, Nat.reduceLT, Nat.reduceEqDiff, reduceCtorEq, Nat.reduceAdd, Nat.reduceMul, Nat.reduceLeDiff, Value.cells, Tryz.underlying3, Tryz.underlying90, tarr_90, telem_90, tez_90, tfld_134_0, tfld_134_1, tfld_92_0, tfld_92_1, tstr_92, tsz_134, tsz_3, tsz_4, tsz_90, tsz_92, tzero_134, tzero_92, *])
    | ((with_reducible refine and_go ?_); refine And.intro (by first | exact kept_refl | exact kept_last rfl | exact kept_keep (by assumption)) ?_)
    | (refine hkont.out _ _ ?_; clear hkont kont))
      have hKx : Keep σ ((σ'.new [sc (.bool false), sc (.int .i64 0)]).put σ'.nobj [sc (.bool false), sc (.int .i64 w2)]) := (hK.new _).put hK.nobj _
      refine aApp_own (by first | exact tez_90) hKx (Own.put (Own.new hO _) _ _) (by decide) (by rfl) hxl (by rfl) (by rfl) (by decide) (by omega) (by omega) ?_
      intro idn σn hOn hKn eobj enobj ever entop
      simp only [put_nobj, new_nobj] at enobj
      simp (maxSteps := 3000000) (disch := (first | omega | (simp only [B1, *]; omega))) only [↓mapA_nil, ↓mapA_cons, B0, gd_true, gd_false, gt_true, gt_false, aRun, Int.reduceToNat, Value.oneCell', awant, aStep, aq, al, aev, aput, upd, dstOk, cst, cst1, acells, flat, behind, aload, apart1, abin, aconv, aint, bnd, lsp, afill, thenQ, blkQ, retQ, ares, aresL, ares1, initS, nxt, aT, aTk, aU, aOne, kep, rdo, objOf, ↓reduceIte, Nat.reduceLT, Nat.reduceEqDiff, reduceCtorEq, Nat.reduceAdd, Nat.reduceMul, Nat.reduceLeDiff, Value.cells, Tryz.underlying3, Tryz.underlying90, tarr_90, telem_90, tez_90, tfld_134_0, tfld_134_1, tfld_92_0, tfld_92_1, tstr_92, tsz_134, tsz_3, tsz_4, tsz_90, tsz_92, tzero_134, tzero_92, *]
      repeat' (first
    | with_reducible apply awp_seq
    | with_reducible apply awp_block
    | ((with_reducible refine awp_region_k ?_); intro kont hkont)
    | ((with_reducible refine hkont.out _ _ ?_); clear hkont kont)
    | ((first | ((with_reducible refine gd_go ?_); refine gd_split (fun h => ?_) (fun h => ?_)) | ((with_reducible refine gt_go ?_); refine gt_split (fun h => ?_) (fun h => ?_)) | ((with_reducible refine cond_go ?_); refine awp_cond_split rfl (fun h => ?_) (fun h => ?_))) <;> (try simp only [upd, ↓reduceIte, Nat.reduceEqDiff] at h) <;> (try simp only [B2] at h) <;> (try simp only [*, reduceCtorEq, decide_true, decide_false] at h) <;> (try (have hari := h; simp only [B3] at hari)) <;> (try (first | contradiction | (exfalso; omega) | (exfalso; simp at h; done))) <;> (try simp only [gd_true, gd_false, gt_true, gt_false]))
    | ((with_reducible refine aapp_go ?_); refine aApp_own (by first | exact tez_90) (by assumption) (by assumption) (by decide) (by rfl) (by first | assumption | (simp; done) | (simp; omega) | omega) (by rfl) (by rfl) (by decide) (by omega) (by omega) ?_; intro idn σn hOn hKn eobj enobj ever entop)
    | with_reducible apply awp_skip
    | with_reducible apply awp_exit
    | with_reducible apply awp_ret
    | (simp (maxSteps := 3000000) (disch := (first | omega | (simp only [B1, *]; omega))) only [↓mapA_nil, ↓mapA_cons, B0, gd_true, gd_false, gt_true, gt_false, aRun, Int.reduceToNat, Value.oneCell', awant, aStep, aq, al, aev, aput, upd, dstOk, cst, cst1, acells, flat, behind, aload, apart1, abin, aconv, aint, bnd, lsp, afill, thenQ, blkQ, retQ, ares, aresL, ares1, initS, nxt, aT, aTk, aU, aOne, kep, rdo, objOf, ↓reduceIte, Nat.reduceLT, Nat.reduceEqDiff, reduceCtorEq, Nat.reduceAdd, Nat.reduceMul, Nat.reduceLeDiff, Value.cells, Tryz.underlying3, Tryz.underlying90, tarr_90, telem_90, tez_90, tfld_134_0, tfld_134_1, tfld_92_0, tfld_92_1, tstr_92, tsz_134, tsz_3, tsz_4, tsz_90, tsz_92, tzero_134, tzero_92, *])
    | ((with_reducible refine and_go ?_); refine And.intro (by first | exact kept_refl | exact kept_last rfl | exact kept_keep (by assumption)) ?_)
    | (refine hkont.out _ _ ?_; clear hkont kont))
      refine ⟨a.terms.length - (k + 1), by omega, k + 1, idn, _, rfl, by omega, by simp, hKn.put (by omega) _, by omega, rfl, Own.put hOn _ _, by simp; omega, ?_⟩
      rw [Abs.Hid, hstep.out, hrc.out]
  · have hkl : k = a.terms.length := by omega
    subst hkl
    rw [List.take_length] at hX
    repeat' (first
    | with_reducible apply awp_seq
    | with_reducible apply awp_block
    | ((with_reducible refine awp_region_k ?_); intro kont hkont)
    | ((with_reducible refine hkont.out _ _ ?_); clear hkont kont)
    | ((first | ((with_reducible refine gd_go ?_); refine gd_split (fun h => ?_) (fun h => ?_)) | ((with_reducible refine gt_go ?_); refine gt_split (fun h => ?_) (fun h => ?_)) | ((with_reducible refine cond_go ?_); refine awp_cond_split rfl (fun h => ?_) (fun h => ?_))) <;> (try simp only [upd, ↓reduceIte, Nat.reduceEqDiff] at h) <;> (try simp only [B2] at h) <;> (try simp only [*, reduceCtorEq, decide_true, decide_false] at h) <;> (try (have hari := h; simp only [B3] at hari)) <;> (try (first | contradiction | (exfalso; omega) | (exfalso; simp at h; done))) <;> (try simp only [gd_true, gd_false, gt_true, gt_false]))
    | ((with_reducible refine aapp_go ?_); refine aApp_own (by first | exact tez_90) (by assumption) (by assumption) (by decide) (by rfl) (by first | assumption | (simp; done) | (simp; omega) | omega) (by rfl) (by rfl) (by decide) (by omega) (by omega) ?_; intro idn σn hOn hKn eobj enobj ever entop)
    | with_reducible apply awp_skip
    | with_reducible apply awp_exit
    | with_reducible apply awp_ret
    | (simp (maxSteps := 3000000) (disch := (first | omega | (simp only [B1, *]; omega))) only [↓mapA_nil, ↓mapA_cons, B0, gd_true, gd_false, gt_true, gt_false, aRun, Int.reduceToNat, Value.oneCell', awant, aStep, aq, al, aev, aput, upd, dstOk, cst, cst1, acells, flat, behind, aload, apart1, abin, aconv, aint, bnd, lsp, afill, thenQ, blkQ, retQ, ares, aresL, ares1, initS, nxt, aT, aTk, aU, aOne, kep, rdo, objOf, ↓reduceIte, Nat.reduceLT, Nat.reduceEqDiff, reduceCtorEq, Nat.reduceAdd, Nat.reduceMul, Nat.reduceLeDiff, Value.cells, Tryz.underlying3, Tryz.underlying90, tarr_90, telem_90, tez_90, tfld_134_0, tfld_134_1, tfld_92_0, tfld_92_1, tstr_92, tsz_134, tsz_3, tsz_4, tsz_90, tsz_92, tzero_134, tzero_92, *])
    | ((with_reducible refine and_go ?_); refine And.intro (by first | exact kept_refl | exact kept_last rfl | exact kept_keep (by assumption)) ?_)
    | (refine hkont.out _ _ ?_; clear hkont kont))
    exact ⟨_, rfl, i3, by rw [hX.out], hK.put (by omega) _⟩

set_option maxHeartbeats 4000000 in
theorem pvariables_spec (N : List Tx) (x : RItem) (c : List AV) (hc : PI N x c) (ho : x.out = true → x.body = []) (hx : x.fits) (hV : ∀ a ∈ atomsL x, VA a) (σ : St) : ACalls Tryz.prog 73 [ag c] σ fun r σ' => ∃ id, r = sl id (ordL x).length ((ordL x).map encI) ∧ VL (ordL x) ∧ Keep σ σ' := by
  have hA := patoms_spec N x c hc ho (by have := hx.1; omega)
  have hat : ∀ a ∈ atomsL x, a.terms.length ≤ 1000 := by
    intro a ha
    unfold atomsL at ha
    rcases List.mem_append.1 ha with h | h
    · split at h
      · cases h
      · simp at h; subst h; exact hx.2.1
    · exact hx.2.2 a h
  have hal := hx.atoms
  have hVO := fun cs ida hE σ => variablesOf_spec N (atomsL x) cs ida hE hV hal hat σ
  obtain ⟨hm, ih, id, b, hb, rfl⟩ := hc
  unfold ordL
  generalize ordT [] ((atomsL x).flatMap (·.terms)) = lo at hVO
  refine acalls 6 [.tmp 2] Tryz.func73 rfl (by decide) rfl rfl (Nat.le_of_ble_eq_true rfl) ?_
  repeat' (first
    | with_reducible apply awp_seq
    | with_reducible apply awp_block
    | ((with_reducible refine awp_region_k ?_); intro kont hkont)
    | ((with_reducible refine hkont.out _ _ ?_); clear hkont kont)
    | ((first | ((with_reducible refine gd_go ?_); refine gd_split (fun h => ?_) (fun h => ?_)) | ((with_reducible refine gt_go ?_); refine gt_split (fun h => ?_) (fun h => ?_)) | ((with_reducible refine cond_go ?_); refine awp_cond_split rfl (fun h => ?_) (fun h => ?_))) <;> (try simp only [upd, ↓reduceIte, Nat.reduceEqDiff] at h) <;> (try simp only [B2] at h) <;> (try simp only [*, reduceCtorEq, decide_true, decide_false] at h) <;> (try (have hari := h; simp only [B3] at hari)) <;> (try (first | contradiction | (exfalso; omega) | (exfalso; simp at h; done))) <;> (try simp only [gd_true, gd_false, gt_true, gt_false]))
    | ((with_reducible refine acalls_go ?_); refine ACalls.mono (hA _) ?_; rintro _ _ ⟨ida, cs, rfl, hE, hK1⟩)
    | ((with_reducible refine acalls_go ?_); refine ACalls.mono (hVO _ _ (by assumption) _) ?_; rintro _ _ ⟨id2, rfl, hVL, hK2⟩)
    | with_reducible apply awp_skip
    | with_reducible apply awp_exit
    | with_reducible apply awp_ret
    | (simp (maxSteps := 3000000) (disch := (first | omega | (simp only [B1, *]; omega))) only [↓mapA_nil, ↓mapA_cons, B0, gd_true, gd_false, gt_true, gt_false, aRun, Int.reduceToNat, Value.oneCell', awant, aStep, aq, al, aev, aput, upd, dstOk, cst, cst1, acells, flat, behind, aload, apart1, abin, aconv, aint, bnd, lsp, afill, thenQ, blkQ, retQ, ares, aresL, ares1, initS, nxt, aT, aTk, aU, aOne, kep, rdo, objOf, ↓reduceIte, Nat.reduceLT, Nat.reduceEqDiff, reduceCtorEq, Nat.reduceAdd, Nat.reduceMul, Nat.reduceLeDiff, Value.cells, tsz_99, *])
    | ((with_reducible refine and_go ?_); refine And.intro (by first | exact kept_refl | exact kept_last rfl | exact kept_keep (by assumption)) ?_)
    | (refine hkont.out _ _ ?_; clear hkont kont))
  exact ⟨_, rfl, id2, rfl, by repeat (first | exact Keep.refl _ | assumption | (refine Keep.put ?_ (by first | omega | (simp only [new_nobj, put_nobj, lay_nobj, *]; omega)) _) | (refine Keep.new ?_ _) | (refine Keep.lay ?_ _) | (refine Keep.trans ?_ (by assumption)))⟩
end Go.Proofs.YtmokifgkfcdldaaGreatDoorY
